"""The calls: a desk holds documents and perhaps a laying, and answers each call by a list of whole numbers."""

from widthlayout.documents import make_document
from widthlayout.laying import Laying, lay_out, least_width
from widthlayout.reading import read_parts

PUT = 0
DROP = 1
TOLD = 2
SIZE = 3
FLAT = 4
LAY = 5
GROUPS = 6
LINES = 7
LEAST = 8
BEGIN = 9
STEPS = 10
LOOK = 11
WRITTEN = 12

# How many whole numbers each call is given, by its number; a put has a row instead.
GIVEN = (0, 0, 1, 1, 1, 2, 2, 2, 1, 2, 1, 0, 0, 1)

NO_ROW = -1
NO_DOCUMENT = -2
NO_WIDTH = -3
TOO_LARGE = -4
FULL = -5
NO_COUNT = -6
FORCED = -7
TOO_LONG = -8
NOTHING_THERE = -9

MOST_HELD = 20
MOST_WIDTH = 1000
MOST_WRITTEN = 20000


class Desk:
    def __init__(self):
        self.documents = []
        # None stands for no laying under way.
        self.laying = None

    def answer(self, call):
        if call[0] == PUT:
            return self.answer_put(call[2:])
        if call[0] == DROP:
            return self.answer_drop()
        if call[0] == TOLD:
            return self.answer_told(call[1])
        if call[0] == SIZE:
            return self.answer_size(call[1])
        if call[0] == FLAT:
            return self.answer_flat(call[1])
        if call[0] == LAY:
            return self.answer_lay(call[1], call[2])
        if call[0] == GROUPS:
            return self.answer_groups(call[1], call[2])
        if call[0] == LINES:
            return self.answer_lines(call[1], call[2])
        if call[0] == LEAST:
            return self.answer_least(call[1])
        if call[0] == BEGIN:
            return self.answer_begin(call[1], call[2])
        if call[0] == STEPS:
            return self.answer_steps(call[1])
        if call[0] == LOOK:
            return self.answer_look()
        if call[0] == WRITTEN:
            return self.answer_written()
        return self.answer_back(call[1])

    def answer_put(self, row):
        parts = read_parts(row, len(self.documents))
        if parts is None:
            return [NO_ROW]
        document = make_document(parts, self.documents)
        if document is None:
            return [TOO_LARGE]
        if len(self.documents) == MOST_HELD:
            return [FULL]
        self.documents.append(document)
        return [len(self.documents) - 1]

    def answer_drop(self):
        if not self.documents:
            return [NOTHING_THERE]
        self.documents.pop()
        return [len(self.documents)]

    def holds(self, k):
        return 0 <= k < len(self.documents)

    def answer_told(self, k):
        if not self.holds(k):
            return [NO_DOCUMENT]
        document = self.documents[k]
        return [len(document.parts)] + document.row_numbers()

    def answer_size(self, k):
        if not self.holds(k):
            return [NO_DOCUMENT]
        document = self.documents[k]
        forced = 1 if document.forced[0] else 0
        return [len(document.parts), document.depths[0], document.count_bytes(), document.count_groups(), forced]

    def answer_flat(self, k):
        if not self.holds(k):
            return [NO_DOCUMENT]
        if self.documents[k].forced[0]:
            return [FORCED]
        # On one line the width plays no part: any will do.
        written = lay_out(self.documents[k], 0, True).written
        return [len(written)] + written

    # None stands for no refusal.
    def laying_refusal(self, w, k):
        if not 0 <= w <= MOST_WIDTH:
            return NO_WIDTH
        if not self.holds(k):
            return NO_DOCUMENT
        return None

    def answer_lay(self, w, k):
        refusal = self.laying_refusal(w, k)
        if refusal is not None:
            return [refusal]
        laying = lay_out(self.documents[k], w, False)
        if len(laying.written) > MOST_WRITTEN:
            return [TOO_LONG]
        lines = laying.lines
        return [len(lines.found), lines.greatest_length(), len(laying.written)] + laying.written

    def answer_groups(self, w, k):
        refusal = self.laying_refusal(w, k)
        if refusal is not None:
            return [refusal]
        flat_groups = lay_out(self.documents[k], w, False).flat_groups
        return [len(flat_groups)] + flat_groups

    def answer_lines(self, w, k):
        refusal = self.laying_refusal(w, k)
        if refusal is not None:
            return [refusal]
        lines = lay_out(self.documents[k], w, False).lines
        return [len(lines.found)] + lines.told_numbers()

    def answer_least(self, k):
        if not self.holds(k):
            return [NO_DOCUMENT]
        return [least_width(self.documents[k])]

    def answer_begin(self, w, k):
        refusal = self.laying_refusal(w, k)
        if refusal is not None:
            return [refusal]
        # The laying keeps the document itself, so that it goes on when that is dropped.
        self.laying = Laying(self.documents[k], w, False)
        return [len(self.laying.commands)]

    def answer_steps(self, n):
        if self.laying is None:
            return [NOTHING_THERE]
        if n < 0:
            return [NO_COUNT]
        before = self.laying.taken
        self.laying.advance(n)
        return [self.laying.taken - before, len(self.laying.commands)]

    def answer_look(self):
        laying = self.laying
        if laying is None:
            return [NOTHING_THERE]
        pen = laying.pen
        return [laying.taken, pen.column, pen.held, pen.held_indent, len(laying.commands)] + laying.tell_first()

    def answer_written(self):
        if self.laying is None:
            return [NOTHING_THERE]
        written = self.laying.written
        if len(written) > MOST_WRITTEN:
            return [TOO_LONG]
        return [len(written)] + written

    def answer_back(self, n):
        laying = self.laying
        if laying is None:
            return [NOTHING_THERE]
        if not 0 <= n <= laying.taken:
            return [NO_COUNT]
        # The same steps always come to the same, so the ones that stay are taken anew.
        self.laying = Laying(laying.document, laying.width, False)
        self.laying.advance(laying.taken - n)
        return [self.laying.taken]


def call_length(calls, place):
    if calls[place] == PUT:
        return 2 + calls[place + 1]
    return 1 + GIVEN[calls[place]]


def answers(calls):
    desk = Desk()
    answered = []
    place = 0
    while place < len(calls):
        behind = place + call_length(calls, place)
        answer = desk.answer(calls[place:behind])
        answered.append(len(answer))
        answered.extend(answer)
        place = behind
    return answered
