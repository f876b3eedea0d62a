"""What the tests share: writing documents and calls, asking, and documents made by a plain rule."""

from widthlayout.desk import answers

BLANK = [1]
SOFT = [2]
LINE = [3]
HARD = [4]
GAP = [5]
MARKS = {"blank": BLANK, "soft": SOFT, "line": LINE, "hard": HARD, "gap": GAP}

HUGE = 10 ** 18
FAR = (-HUGE, -HUGE + 1, -1, HUGE - 1, HUGE)


def text(letters):
    codes = list(letters.encode("latin-1"))
    return [0, len(codes)] + codes


def row(*documents):
    numbers = [6, len(documents)]
    for document in documents:
        numbers += document
    return numbers


def indented(number, document):
    return [7, number] + document


def aligned(document):
    return [8] + document


def group(document):
    return [9] + document


def named(k):
    return [10, k]


def put(document):
    return [0, len(document)] + document


def drop():
    return [1]


def told(k):
    return [2, k]


def size(k):
    return [3, k]


def flat(k):
    return [4, k]


def lay(w, k):
    return [5, w, k]


def groups(w, k):
    return [6, w, k]


def ask(*calls):
    """The answer to each of the calls, made one behind another on a new object."""
    handed = [number for call in calls for number in call]
    given = answers(handed)
    if not all(type(number) is int for number in given):
        raise AssertionError("something other than a whole number was answered")
    split = []
    place = 0
    while place < len(given):
        behind = place + 1 + given[place]
        split.append(given[place + 1:behind])
        place = behind
    if place != len(given) or len(split) != len(calls):
        raise AssertionError(f"{len(calls)} calls, but the answers are {given}")
    return split


def letters_of(codes):
    return bytes(codes).decode("latin-1")


def laid(document, w):
    """What the document is laid to within w, with the counts ahead of it held against it."""
    answer = ask(put(document), lay(w, 0))[1]
    written = letters_of(answer[3:])
    lines = written.split("\n") if written else []
    if answer[:3] != [len(lines), max(map(len, lines), default=0), len(written)]:
        raise AssertionError(f"{answer[:3]} was answered ahead of {written!r}")
    return written


def on_one_line(document):
    answer = ask(put(document), flat(0))[1]
    if answer[0] != len(answer) - 1:
        raise AssertionError(f"{answer[0]} was answered ahead of {answer[1:]}")
    return letters_of(answer[1:])


def flat_groups(document, w):
    answer = ask(put(document), groups(w, 0))[1]
    if answer[0] != len(answer) - 1:
        raise AssertionError(f"{answer[0]} was answered ahead of {answer[1:]}")
    return answer[1:]


class Rule:
    """A plain rule that picks one number after another: the same ones for the same beginning."""

    def __init__(self, beginning):
        self.state = beginning

    def pick(self, count):
        self.state = (self.state * 1103515245 + 12345) % 2 ** 31
        return (self.state >> 12) % count


def made_document(rule, depth):
    """The row of a document of at most this depth, as the rule picks it."""
    choice = rule.pick(16)
    if depth == 1 or choice < 8:
        if choice % 2 == 0:
            return text("abcdefgh"[:1 + rule.pick(5)])
        # Hards and gaps come seldom: they force every group around them.
        return [BLANK, SOFT, LINE, LINE, SOFT, BLANK, LINE, SOFT, LINE, HARD, GAP][rule.pick(11)]
    if choice < 10:
        return indented(rule.pick(4), made_document(rule, depth - 1))
    if choice == 10:
        return aligned(made_document(rule, depth - 1))
    if choice < 14:
        return group(made_document(rule, depth - 1))
    return made_row(rule, depth)


def made_row(rule, depth):
    return row(*[made_document(rule, depth - 1) for count in range(rule.pick(7))])


def made_documents(count):
    """So many documents' rows: each a row of several, some of them within a group."""
    found = []
    for beginning in range(count):
        rule = Rule(beginning * 7919 + 1)
        document = row(*[made_document(rule, 6) for part in range(3 + rule.pick(6))])
        found.append(group(document) if rule.pick(2) else document)
    return found
