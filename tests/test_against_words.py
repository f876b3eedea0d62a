"""Many documents held against a second laying, which follows the document's words one by one.

It's slow and plain: documents are nested tuples, and a group's thought goes on with a copy of all that there is.
"""

import itertools
import unittest

from tests.helper import (BLANK, GAP, HARD, LINE, SOFT, aligned, ask, flat, group, groups, indented, lay,
                          made_documents, put, row, size, text)

WIDTHS = (0, 1, 2, 3, 4, 6, 9, 13, 20, 31, 60)


def tree(numbers, place=0):
    """The document that the row tells from this place on, and the place behind it."""
    kind = numbers[place]
    if kind == 0:
        behind = place + 2 + numbers[place + 1]
        return (kind, numbers[place + 2:behind]), behind
    if kind <= 5:
        return (kind,), place + 1
    if kind == 6:
        inner = []
        behind = place + 2
        for count in range(numbers[place + 1]):
            found, behind = tree(numbers, behind)
            inner.append(found)
        return (kind, inner), behind
    number = numbers[place + 1] if kind == 7 else 0
    found, behind = tree(numbers, place + (2 if kind == 7 else 1))
    return (kind, [found], number), behind


def inner_of(document):
    return document[1] if document[0] >= 6 else []


def parts_of(document):
    return [document] + [part for inner in inner_of(document) for part in parts_of(inner)]


def depth_of(document):
    return 1 + max([depth_of(inner) for inner in inner_of(document)], default=0)


def is_forced(document):
    return any(part[0] in (4, 5) for part in parts_of(document))


class Words:
    def __init__(self, document, width, is_flat):
        self.width = width
        self.commands = [(document, 0, is_flat)]
        self.written = []
        self.held = ("nothing",)
        self.flags = []
        self.in_thought = False

    def column(self):
        behind = 0
        for place, byte in enumerate(self.written):
            if byte == 10:
                behind = place + 1
        return len(self.written) - behind

    def blank_comes(self):
        if self.held == ("nothing",) and self.column() != 0:
            self.held = ("blank",)

    def break_comes(self, i):
        if self.column() != 0:
            self.held = ("empty line", i) if self.held[0] == "empty line" else ("break", i)

    def step(self):
        document, i, is_flat = self.commands.pop(0)
        kind = document[0]
        if kind == 0:
            before = {"nothing": [], "blank": [32], "break": [10], "empty line": [10, 10]}[self.held[0]]
            self.written += before + [32] * sum(self.held[1:]) + document[1]
            self.held = ("nothing",)
        elif kind == 1:
            self.blank_comes()
        elif kind == 2:
            if not is_flat:
                self.break_comes(i)
        elif kind == 3:
            if is_flat:
                self.blank_comes()
            else:
                self.break_comes(i)
        elif kind == 4:
            self.break_comes(i)
        elif kind == 5:
            if self.column() != 0:
                self.held = ("empty line", i)
        elif kind == 6:
            self.commands = [(inner, i, is_flat) for inner in document[1]] + self.commands
        elif kind == 7:
            self.commands.insert(0, (document[1][0], i + document[2], is_flat))
        elif kind == 8:
            if self.held[0] in ("break", "empty line"):
                i = self.held[1]
            else:
                i = self.column() + (1 if self.held[0] == "blank" else 0)
            self.commands.insert(0, (document[1][0], i, is_flat))
        else:
            if not self.in_thought:
                is_flat = is_flat or (not is_forced(document) and self.fits(document, i))
                self.flags.append(1 if is_flat else 0)
            self.commands.insert(0, (document[1][0], i, is_flat))

    def fits(self, document, i):
        thought = Words(None, self.width, False)
        thought.commands = [(document[1][0], i, True)] + self.commands
        thought.written = list(self.written)
        thought.held = self.held
        thought.in_thought = True
        while thought.commands:
            following, indent, is_flat = thought.commands[0]
            if following[0] in (4, 5) or (following[0] in (2, 3) and not is_flat):
                return True
            thought.step()
            if following[0] == 0 and thought.column() > self.width:
                return False
        return True

    def finish(self):
        while self.commands:
            self.step()
        return self


class AgainstWordsTest(unittest.TestCase):
    def check(self, numbers, widths):
        document = tree(numbers)[0]
        calls = [put(numbers), size(0), flat(0)]
        for width in widths:
            calls += [lay(width, 0), groups(width, 0)]
        found = ask(*calls)
        parts = parts_of(document)
        self.assertEqual(found[1], [len(parts), depth_of(document), sum(len(part[1]) for part in parts if part[0] == 0),
                                    sum(1 for part in parts if part[0] == 9), 1 if is_forced(document) else 0])
        if is_forced(document):
            self.assertEqual(found[2], [-7], numbers)
        else:
            written = Words(document, 0, True).finish().written
            self.assertEqual(found[2], [len(written)] + written, numbers)
        for number, width in enumerate(widths):
            words = Words(document, width, False).finish()
            lines = bytes(words.written).split(b"\n") if words.written else []
            self.assertEqual(found[3 + 2 * number],
                             [len(lines), max(map(len, lines), default=0), len(words.written)] + words.written,
                             (numbers, width))
            self.assertEqual(found[4 + 2 * number], [len(words.flags)] + words.flags, (numbers, width))

    def test_made_documents(self):
        for numbers in made_documents(600):
            self.check(numbers, WIDTHS)

    def test_all_short_rows(self):
        pieces = (text("a"), BLANK, SOFT, LINE, HARD, GAP, group(row(text("bb"), LINE)))
        for chosen in itertools.product(pieces, repeat=3):
            inner = indented(1, row(*chosen))
            self.check(row(text("c"), inner, text("d")), (0, 3, 5))
            self.check(row(text("c"), group(inner), text("d")), (2, 4, 7))
            self.check(row(text("c"), group(aligned(row(*chosen, group(row(LINE, text("d"))))))), (3, 5, 8))


if __name__ == "__main__":
    unittest.main()
