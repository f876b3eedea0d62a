"""Many documents held against a second laying, the helper's Words, which follows the document's words one by one."""

import itertools
import unittest

from tests.helper import (BLANK, GAP, HARD, LINE, SOFT, Words, aligned, ask, back, begin, depth_of, flat, forced_groups,
                          group, groups, indented, is_forced, lay, least, lines, look, made_documents, parts_of, put,
                          row, size, steps, text, tree, written)

WIDTHS = (0, 1, 2, 3, 4, 6, 9, 13, 20, 31, 60)


def stretched(numbers):
    """The same document with 80 times as many bytes in each text."""
    longer = []
    place = 0
    while place < len(numbers):
        behind = place + (2 if numbers[place] in (6, 7) else 1)
        if numbers[place] == 0:
            behind = place + 2 + numbers[place + 1]
            longer += [0, 80 * numbers[place + 1]] + numbers[place + 2:behind] * 80
        else:
            longer += numbers[place:behind]
        place = behind
    return longer


class AgainstWordsTest(unittest.TestCase):
    def check(self, numbers, widths):
        document = tree(numbers)[0]
        calls = [put(numbers), size(0), flat(0)]
        for width in widths:
            calls += [lay(width, 0), groups(width, 0), lines(width, 0)]
        found = ask(*calls)
        parts = parts_of(document)
        self.assertEqual(found[1], [len(parts), depth_of(document), sum(len(part[1]) for part in parts if part[0] == 0),
                                    sum(1 for part in parts if part[0] == 9), 1 if is_forced(document) else 0])
        if is_forced(document):
            self.assertEqual(found[2], [-7], numbers)
        else:
            codes = Words(document, 0, True).finish().written
            self.assertEqual(found[2], [len(codes)] + codes, numbers)
        for number, width in enumerate(widths):
            words = Words(document, width, False).finish()
            pieces = bytes(words.written).split(b"\n") if words.written else []
            self.assertEqual(found[3 + 3 * number],
                             [len(pieces), max(map(len, pieces), default=0), len(words.written)] + words.written,
                             (numbers, width))
            self.assertEqual(found[4 + 3 * number], [len(words.flags)] + words.flags, (numbers, width))
            told_lines = [count for line in words.lines() for count in line]
            self.assertEqual(found[5 + 3 * number], [len(pieces)] + told_lines, (numbers, width))

    def test_made_documents(self):
        for numbers in made_documents(600):
            self.check(numbers, WIDTHS)

    def test_all_short_rows(self):
        pieces = (text("a"), BLANK, SOFT, LINE, HARD, GAP, group(row(text("bb"), LINE)))
        for chosen in itertools.product(pieces, repeat=3):
            inner = indented(1, row(*chosen))
            self.check(row(text("c"), inner, text("d")), (0, 3, 5))
            self.check(row(text("c"), group(inner), text("d")), (2, 4, 7))
            self.check(row(text("c"), group(aligned(row(*chosen, group(row(LINE, text("d"))))))), (3, 5, 8))


class LeastAgainstWordsTest(unittest.TestCase):
    def all_flat(self, document, width):
        flags = Words(document, width, False).finish().flags
        return all(flag or forced for flag, forced in zip(flags, forced_groups(document), strict=True))

    def test_made_documents(self):
        for numbers in made_documents(600):
            document = tree(numbers)[0]
            width = 0
            while not self.all_flat(document, width):
                width += 1
            self.assertEqual(ask(put(numbers), least(0))[1], [width], numbers)

    def test_above_1000(self):
        seen = 0
        for numbers in made_documents(300):
            long_one = stretched(numbers)
            if len(long_one) > 3000:
                continue
            document = tree(long_one)[0]
            width = ask(put(long_one), least(0))[1][0]
            self.assertTrue(self.all_flat(document, width), numbers)
            self.assertFalse(width > 0 and self.all_flat(document, width - 1), numbers)
            seen += 1 if width > 1000 else 0
        self.assertGreater(seen, 50)


class StepsAgainstWordsTest(unittest.TestCase):
    """Every step of a laying, there and back again."""

    def each(self):
        for number, numbers in enumerate(made_documents(150)):
            for width in (0, 4 + number % 5, 12, 60):
                yield numbers, width, tree(numbers)[0]

    def test_forth(self):
        for numbers, width, document in self.each():
            count = len(parts_of(document))
            words = Words(document, width, False)
            # 12 steps with their looks in one list of calls; the steps before them are taken at once.
            for before in range(0, count, 12):
                found = ask(put(numbers), begin(width, 0), steps(before), *[steps(1), look(), written()] * 12)
                for place in range(3, 3 + 3 * min(12, count - before), 3):
                    words.step()
                    self.assertEqual(found[place:place + 3],
                                     [[1, len(words.commands)], words.look(), [len(words.written)] + words.written],
                                     (numbers, width))
            self.assertEqual(words.commands, [])

    def test_back(self):
        for numbers, width, document in self.each():
            count = len(parts_of(document))
            for before in range(count, 0, -12):
                undone = min(12, before)
                found = ask(put(numbers), begin(width, 0), steps(before), *[back(1), look(), written()] * undone)
                for number in range(undone):
                    left = before - number - 1
                    words = Words(document, width, False).advance(left)
                    self.assertEqual(found[3 + 3 * number:6 + 3 * number],
                                     [[left], words.look(), [len(words.written)] + words.written], (numbers, width))


if __name__ == "__main__":
    unittest.main()
