"""Point 12, held against what is answered, for many documents and widths made by a plain rule."""

import unittest

from tests.helper import ask, groups, lay, made_documents, put, text, told
from widthlayout.documents import make_document
from widthlayout.laying import Laying
from widthlayout.reading import read_parts

WIDTHS = (0, 1, 2, 3, 5, 8, 12, 17, 25, 40, 1000)


def walk(numbers, flags):
    """The texts and the breaks of a told row in order, each break with whether it is flat.

    flags tells for each group whether it was flat.
    """
    events = []
    flags = list(flags)
    # Each entry: how many documents are still to come, and whether these are flat.
    due = [[1, False]]
    place = 0
    while due:
        if due[-1][0] == 0:
            due.pop()
            continue
        due[-1][0] -= 1
        kind = numbers[place]
        is_flat = due[-1][1]
        place += 1
        if kind == 0:
            count = numbers[place]
            events.append(("text", numbers[place + 1:place + 1 + count]))
            place += 1 + count
        elif kind in (2, 3):
            events.append(("break", is_flat))
        elif kind == 6:
            due.append([numbers[place], is_flat])
            place += 1
        elif kind == 7:
            due.append([1, is_flat])
            place += 1
        elif kind == 8:
            due.append([1, is_flat])
        elif kind == 9:
            due.append([1, flags.pop(0) == 1])
    return events


class Point12Test(unittest.TestCase):
    def each(self):
        """Each document and width with what was laid, and the events that laid it."""
        for document in made_documents(400):
            calls = [put(document), told(0)]
            for width in WIDTHS:
                calls += [lay(width, 0), groups(width, 0)]
            found = ask(*calls)
            for number, width in enumerate(WIDTHS):
                laid = found[2 + 2 * number][3:]
                flags = found[3 + 2 * number][1:]
                yield document, width, laid, walk(found[1][1:], flags)

    def test_lines(self):
        for document, width, laid, events in self.each():
            if not laid:
                continue
            lines = bytes(laid).split(b"\n")
            self.assertTrue(lines[0] and lines[-1], (document, width))
            for number, line in enumerate(lines):
                self.assertFalse(line.endswith(b" "), (document, width))
                self.assertTrue(line or lines[number - 1], (document, width))

    def test_texts_in_order(self):
        for document, width, laid, events in self.each():
            place = 0
            for event, codes in events:
                if event == "text":
                    while laid[place] in (10, 32):
                        place += 1
                    self.assertEqual(laid[place:place + len(codes)], codes, (document, width))
                    place += len(codes)
            self.assertEqual(place, len(laid), (document, width))

    def test_long_lines_have_no_flat_breaks(self):
        seen = 0
        for document, width, laid, events in self.each():
            long_lines = [len(line) > width for line in bytes(laid).split(b"\n")]
            line = place = 0
            waiting = 0
            began = False
            for event, value in events:
                if event == "break":
                    waiting += 1 if value and began else 0
                    continue
                breaks = 0
                while laid[place] in (10, 32):
                    breaks += 1 if laid[place] == 10 else 0
                    place += 1
                place += len(value)
                line += breaks
                if breaks == 0 and waiting:
                    seen += 1
                    self.assertFalse(long_lines[line], (document, width))
                began = True
                waiting = 0
        self.assertGreater(seen, 500)

    def test_as_many_steps_as_parts(self):
        for row in made_documents(100) + [[9] * 39 + [1], [6, 599] + [3] * 599, [6, 0], text("a")]:
            document = make_document(read_parts(row, 0), [])
            for width in WIDTHS:
                laying = Laying(document, width, False)
                steps = 0
                while laying.commands:
                    laying.step()
                    steps += 1
                self.assertEqual(steps, ask(put(row), told(0))[1][0], row)


if __name__ == "__main__":
    unittest.main()
