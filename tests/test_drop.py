"""Point 2: drop."""

import unittest

from tests.helper import BLANK, GAP, HARD, LINE, SOFT, ask, drop, group, lay, named, put, row, text, told
from widthlayout.documents import make_document
from widthlayout.reading import read_parts


class DropTest(unittest.TestCase):
    def test_down_to_none_and_once_more(self):
        self.assertEqual(ask(drop(), put(BLANK), put(SOFT), put(LINE), drop(), drop(), drop(), drop(), drop()),
                         [[-9], [0], [1], [2], [2], [1], [0], [-9], [-9]])

    def test_last_one_goes(self):
        self.assertEqual(ask(put(HARD), put(GAP), drop(), told(0), told(1)), [[0], [1], [1], [1, 4], [-2]])

    def test_number_given_anew(self):
        self.assertEqual(ask(put(BLANK), put(SOFT), drop(), put(text("a")), told(1), told(0)),
                         [[0], [1], [1], [1], [1, 0, 1, 97], [1, 1]])

    def test_from_twenty(self):
        found = ask(*[put(BLANK)] * 20, *[drop()] * 20)
        self.assertEqual(found[20:], [[left] for left in range(19, -1, -1)])

    def test_naming_one_is_as_it_was_when_others_go(self):
        found = ask(put(text("ab")), put(row(named(0), HARD, named(0))), put(named(1)), drop(), lay(9, 1), told(1),
                    put(text("zz")), lay(9, 1), told(1))
        self.assertEqual(found[4], [2, 2, 5, 97, 98, 10, 97, 98])
        self.assertEqual(found[5], [4, 6, 3, 0, 2, 97, 98, 4, 0, 2, 97, 98])
        self.assertEqual(found[7:], found[4:6])

    def test_number_given_anew_is_named_anew(self):
        found = ask(put(text("a")), put(named(0)), drop(), drop(), put(text("b")), put(row(named(0))), told(1))
        self.assertEqual(found[6], [2, 6, 1, 0, 1, 98])

    def test_naming_one_is_whole_without_the_named_one(self):
        # By the calls a document that names another goes before that one, so this is looked at beneath them.
        held = [make_document(read_parts(group(row(text("a"), LINE)), 0), [])]
        naming = make_document(read_parts(row(named(0), SOFT), 1), held)
        held.pop()
        held.append(make_document(read_parts(HARD, 0), []))
        self.assertEqual(naming.row_numbers(), row(group(row(text("a"), LINE)), SOFT))
        self.assertFalse(naming.forced[0])


if __name__ == "__main__":
    unittest.main()
