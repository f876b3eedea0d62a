"""The calls: a desk holds documents, and answers each call by a list of whole numbers."""

from widthlayout.documents import make_document
from widthlayout.kinds import BREAK_BYTE
from widthlayout.laying import Laying
from widthlayout.reading import read_parts

PUT = 0
DROP = 1
TOLD = 2
SIZE = 3
FLAT = 4
LAY = 5

# How many whole numbers each call is given, by its number; a put has a row instead.
GIVEN = (0, 0, 1, 1, 1, 2, 2)

NO_ROW = -1
NO_DOCUMENT = -2
NO_WIDTH = -3
TOO_LARGE = -4
FULL = -5
FORCED = -7
TOO_LONG = -8
NOTHING_THERE = -9

MOST_HELD = 20
MOST_WIDTH = 1000
MOST_WRITTEN = 20000


def line_lengths(written):
    if not written:
        return []
    lengths = [0]
    for byte in written:
        if byte == BREAK_BYTE:
            lengths.append(0)
        else:
            lengths[-1] += 1
    return lengths


def lay_out(document, width, flat):
    laying = Laying(document, width, flat)
    laying.finish()
    return laying


class Desk:
    def __init__(self):
        self.documents = []

    def answer(self, call):
        if call[0] == PUT:
            return self.answer_put(call[2:])
        if call[0] == DROP:
            return self.answer_drop()
        if call[0] == TOLD:
            return self.answer_told(call[1])
        if call[0] == SIZE:
            return self.answer_size(call[1])
        if call[0] == FLAT:
            return self.answer_flat(call[1])
        if call[0] == LAY:
            return self.answer_lay(call[1], call[2])
        return self.answer_groups(call[1], call[2])

    def answer_put(self, row):
        parts = read_parts(row, len(self.documents))
        if parts is None:
            return [NO_ROW]
        document = make_document(parts, self.documents)
        if document is None:
            return [TOO_LARGE]
        if len(self.documents) == MOST_HELD:
            return [FULL]
        self.documents.append(document)
        return [len(self.documents) - 1]

    def answer_drop(self):
        if not self.documents:
            return [NOTHING_THERE]
        self.documents.pop()
        return [len(self.documents)]

    def holds(self, k):
        return 0 <= k < len(self.documents)

    def answer_told(self, k):
        if not self.holds(k):
            return [NO_DOCUMENT]
        document = self.documents[k]
        return [len(document.parts)] + document.row_numbers()

    def answer_size(self, k):
        if not self.holds(k):
            return [NO_DOCUMENT]
        document = self.documents[k]
        forced = 1 if document.forced[0] else 0
        return [len(document.parts), document.depths[0], document.count_bytes(), document.count_groups(), forced]

    def answer_flat(self, k):
        if not self.holds(k):
            return [NO_DOCUMENT]
        if self.documents[k].forced[0]:
            return [FORCED]
        # On one line the width plays no part: any will do.
        written = lay_out(self.documents[k], 0, True).written
        return [len(written)] + written

    # None stands for no refusal.
    def laying_refusal(self, w, k):
        if not 0 <= w <= MOST_WIDTH:
            return NO_WIDTH
        if not self.holds(k):
            return NO_DOCUMENT
        return None

    def answer_lay(self, w, k):
        refusal = self.laying_refusal(w, k)
        if refusal is not None:
            return [refusal]
        written = lay_out(self.documents[k], w, False).written
        if len(written) > MOST_WRITTEN:
            return [TOO_LONG]
        lengths = line_lengths(written)
        return [len(lengths), max(lengths, default=0), len(written)] + written

    def answer_groups(self, w, k):
        refusal = self.laying_refusal(w, k)
        if refusal is not None:
            return [refusal]
        flat_groups = lay_out(self.documents[k], w, False).flat_groups
        return [len(flat_groups)] + flat_groups


def call_length(calls, place):
    if calls[place] == PUT:
        return 2 + calls[place + 1]
    return 1 + GIVEN[calls[place]]


def answers(calls):
    desk = Desk()
    answered = []
    place = 0
    while place < len(calls):
        behind = place + call_length(calls, place)
        answer = desk.answer(calls[place:behind])
        answered.append(len(answer))
        answered.extend(answer)
        place = behind
    return answered
