"""Reading a row of numbers that may be a document's row; None stands for what is none."""

from widthlayout.documents import Part, count_inner, numbers_of
from widthlayout.kinds import BLANK_BYTE, BREAK_BYTE, INDENTED, NAMED, ROW, TEXT

MOST_TEXT = 1000
MOST_INDENT = 8
MOST_OUTER = 39


def is_text(text):
    if text[0] == BLANK_BYTE or text[-1] == BLANK_BYTE:
        return False
    return all([0 <= byte <= 255 and byte != BREAK_BYTE for byte in text])


def number_is_right(kind, number, held):
    if kind == TEXT:
        return 1 <= number <= MOST_TEXT
    if kind == INDENTED:
        return 0 <= number <= MOST_INDENT
    if kind == NAMED:
        return 0 <= number < held
    return 0 <= number


def read_numbered(row, place, held):
    kind = row[place]
    if place + 1 == len(row) or not number_is_right(kind, row[place + 1], held):
        return None
    number = row[place + 1]
    if kind != TEXT:
        return Part(kind, number, [])
    text = row[place + 2:place + 2 + number]
    if len(text) < number or not is_text(text):
        return None
    return Part(kind, number, text)


def read_part(row, place, held):
    if place == len(row) or not TEXT <= row[place] <= NAMED:
        return None
    if row[place] in (TEXT, ROW, INDENTED, NAMED):
        return read_numbered(row, place, held)
    return Part(row[place], 0, [])


# Named documents are left as names here: only how many are held matters for whether it is a document's row.
def read_parts(row, held):
    parts = []
    place = 0
    # How many documents are still to come in each one that is begun, ahead of these 1 for the outermost itself:
    # a list in the place of calls within calls, so that no row nests too deep to be read.
    due = [1]
    while due:
        if due[-1] == 0:
            due.pop()
            continue
        part = read_part(row, place, held)
        if part is None or len(due) - 1 > MOST_OUTER:
            return None
        due[-1] -= 1
        due.append(count_inner(part))
        parts.append(part)
        place += len(numbers_of(part))
    return parts if place == len(row) else None
