"""Point 12, held against what is answered, for many documents and widths made by a plain rule."""

import unittest

from tests.helper import HUGE, ask, begin, groups, lay, lines, look, made_documents, put, size, steps, text, told

WIDTHS = (0, 1, 2, 3, 5, 8, 12, 17, 25, 40, 1000)


def walk(numbers, flags):
    """The texts and the breaks of a told row in order, each break with whether it is flat.

    flags tells for each group whether it was flat.
    """
    events = []
    flags = list(flags)
    # Each entry: how many documents are still to come, and whether these are flat.
    due = [[1, False]]
    place = 0
    while due:
        if due[-1][0] == 0:
            due.pop()
            continue
        due[-1][0] -= 1
        kind = numbers[place]
        is_flat = due[-1][1]
        place += 1
        if kind == 0:
            count = numbers[place]
            events.append(("text", numbers[place + 1:place + 1 + count]))
            place += 1 + count
        elif kind in (2, 3):
            events.append(("break", is_flat))
        elif kind == 6:
            due.append([numbers[place], is_flat])
            place += 1
        elif kind == 7:
            due.append([1, is_flat])
            place += 1
        elif kind == 8:
            due.append([1, is_flat])
        elif kind == 9:
            due.append([1, flags.pop(0) == 1])
    return events


class Point12Test(unittest.TestCase):
    def each(self):
        """Each document and width with what was laid, and the events that laid it."""
        for document in made_documents(400):
            calls = [put(document), told(0)]
            for width in WIDTHS:
                calls += [lay(width, 0), groups(width, 0)]
            found = ask(*calls)
            for number, width in enumerate(WIDTHS):
                laid = found[2 + 2 * number][3:]
                flags = found[3 + 2 * number][1:]
                yield document, width, laid, walk(found[1][1:], flags)

    def test_lines(self):
        for document, width, laid, events in self.each():
            if not laid:
                continue
            pieces = bytes(laid).split(b"\n")
            self.assertTrue(pieces[0] and pieces[-1], (document, width))
            for number, piece in enumerate(pieces):
                self.assertFalse(piece.endswith(b" "), (document, width))
                self.assertTrue(piece or pieces[number - 1], (document, width))

    def test_texts_in_order(self):
        for document, width, laid, events in self.each():
            place = 0
            for event, codes in events:
                if event == "text":
                    while laid[place] in (10, 32):
                        place += 1
                    self.assertEqual(laid[place:place + len(codes)], codes, (document, width))
                    place += len(codes)
            self.assertEqual(place, len(laid), (document, width))

    def test_long_lines_have_no_flat_breaks(self):
        seen = 0
        for document, width, laid, events in self.each():
            long_lines = [len(line) > width for line in bytes(laid).split(b"\n")]
            line = place = 0
            waiting = 0
            began = False
            for event, value in events:
                if event == "break":
                    waiting += 1 if value and began else 0
                    continue
                breaks = 0
                while laid[place] in (10, 32):
                    breaks += 1 if laid[place] == 10 else 0
                    place += 1
                place += len(value)
                line += breaks
                if breaks == 0 and waiting:
                    seen += 1
                    self.assertFalse(long_lines[line], (document, width))
                began = True
                waiting = 0
        self.assertGreater(seen, 500)

    def test_long_lines_have_no_flat_breaks_by_lines(self):
        long_ones = flat_ones = 0
        for document in made_documents(400):
            found = ask(put(document), *[lines(width, 0) for width in WIDTHS])
            for width, answer in zip(WIDTHS, found[1:], strict=True):
                for place in range(1, len(answer), 3):
                    length, flat_breaks = answer[place], answer[place + 2]
                    self.assertTrue(length <= width or flat_breaks == 0, (document, width))
                    long_ones += 1 if length > width else 0
                    flat_ones += 1 if flat_breaks else 0
        self.assertGreater(min(long_ones, flat_ones), 500)


class StepsTest(unittest.TestCase):
    def documents(self):
        return made_documents(100) + [[9] * 39 + [1], [6, 599] + [3] * 599, [6, 0], text("a"), [7, 8] * 39 + [5]]

    def test_as_many_as_parts(self):
        for document in self.documents():
            count = ask(put(document), size(0))[1][0]
            for width in WIDTHS:
                found = ask(put(document), begin(width, 0), steps(count - 1), steps(1), steps(1), look())
                self.assertEqual(found[2][0], count - 1, (document, width))
                self.assertGreater(found[2][1], 0, (document, width))
                self.assertEqual(found[3:5], [[1, 0], [0, 0]], (document, width))
                self.assertEqual((found[5][0], found[5][4], len(found[5])), (count, 0, 5), (document, width))
                found = ask(put(document), begin(width, 0), steps(HUGE), look())
                self.assertEqual((found[2], found[3][0]), ([count, 0], count), (document, width))

    def test_step_by_step(self):
        for document in made_documents(100):
            count = ask(put(document), size(0))[1][0]
            for width in (0, 3, 8, 25):
                looks = []
                # 18 steps with their looks in one list of calls.
                for before in range(0, count, 18):
                    looks += ask(put(document), begin(width, 0), steps(before), *[steps(1), look()] * 18)[4::2]
                self.assertEqual([found[0] for found in looks[:count]], list(range(1, count + 1)), (document, width))
                self.assertTrue(all(found[4] > 0 for found in looks[:count - 1]), (document, width))
                self.assertTrue(all(found == looks[count - 1] for found in looks[count:]), (document, width))
                self.assertEqual(looks[count - 1][4], 0, (document, width))


if __name__ == "__main__":
    unittest.main()
