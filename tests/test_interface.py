"""The interface: how calls and answers stand in their lists, and what stays as it was."""

import unittest

from tests.helper import (BLANK, GAP, HARD, HUGE, LINE, SOFT, aligned, ask, drop, flat, group, groups, indented, lay,
                          named, put, row, size, text, told)
from widthlayout.desk import answers


class ReadOnly(list):
    """A list that can't be changed, not for a while either."""

    def refuse(self, *given, **named_ones):
        raise AssertionError("the list that was handed in is changed")

    append = extend = insert = pop = remove = clear = sort = reverse = refuse
    __setitem__ = __delitem__ = __iadd__ = __imul__ = refuse


def every_call():
    word = group(row(text("ab"), LINE, indented(2, aligned(text("cd"))), SOFT))
    return [drop(), put(word), put(row(named(0), HARD, named(0))), put([]), put([6, -1]), told(0), told(1), told(2),
            size(1), size(-1), flat(0), flat(1), flat(7), lay(3, 1), lay(-1, 0), lay(3, 9), groups(3, 1),
            groups(1001, 1), groups(3, 3), drop(), told(1), told(0)]


def joined(calls):
    return [number for call in calls for number in call]


class AnswersTest(unittest.TestCase):
    def test_one_list(self):
        self.assertEqual(answers([1]), [1, -9])
        self.assertEqual(answers([0, 0]), [1, -1])
        self.assertEqual(answers([0, 3, 0, 1, 97, 2, 0, 3, 0, 4, 0, 5, 80, 0, 6, 80, 0, 1, 1]),
                         [1, 0, 4, 1, 0, 1, 97, 5, 1, 1, 1, 0, 0, 2, 1, 97, 4, 1, 1, 1, 97, 1, 0, 1, 0, 1, -9])

    def test_any_call_first(self):
        for call, answer in ((put(BLANK), 0), (drop(), -9), (told(0), -2), (size(0), -2), (flat(0), -2),
                             (lay(0, 0), -2), (groups(0, 0), -2)):
            self.assertEqual(answers(call), [1, answer])

    def test_whole_numbers_alone(self):
        given = answers(joined(every_call()))
        self.assertIs(type(given), list)
        self.assertEqual({type(number) for number in given}, {int})

    def test_handed_in_stays(self):
        handed = joined(every_call())
        before = list(handed)
        given = answers(handed)
        self.assertEqual(handed, before)
        self.assertEqual(answers(ReadOnly(before)), given)

    def test_answers_are_not_shared(self):
        handed = joined(every_call())
        first = answers(handed)
        kept = list(first)
        first.reverse()
        first.append(0)
        self.assertEqual(answers(handed), kept)

    def test_nothing_is_kept(self):
        self.assertEqual(ask(put(BLANK), put(SOFT)), [[0], [1]])
        self.assertEqual(ask(told(0), put(GAP), told(0)), [[-2], [0], [1, 5]])
        self.assertEqual(ask(*every_call()), ask(*every_call()))


class RefusalsTest(unittest.TestCase):
    def test_object_is_as_it_was(self):
        word = group(row(text("ab"), LINE, text("cd")))
        deep = [9] * 39 + BLANK
        steps = [put(word), put(row(named(0), text(";"))), told(1), size(1), flat(0), lay(5, 0), lay(5, 1),
                 groups(5, 1), put(deep), drop(), put(HARD), told(2), lay(4, 1), drop(), drop(), told(0)]
        refused = [(put([]), -1), (put([6, 2, 1]), -1), (put(row(named(0), [11])), -1), (put(row(*[BLANK] * 600)), -4),
                   (put([6, 1] * 30 + row(*[named(0)] * 200)), -4), (told(20), -2), (told(-1), -2), (size(HUGE), -2),
                   (flat(-HUGE), -2), (lay(-1, 0), -3), (lay(1001, 0), -3), (lay(5, 20), -2), (groups(1001, 0), -3),
                   (groups(0, -1), -2)]
        plain = ask(*steps)
        for refusal, number in refused:
            mixed = [steps[0]]
            for step in steps[1:]:
                mixed += [refusal, step]
            found = ask(*mixed)
            self.assertEqual(found[::2], plain, refusal)
            self.assertEqual({tuple(answer) for answer in found[1::2]}, {(number,)}, refusal)

    def test_drop_of_none(self):
        self.assertEqual(ask(drop(), drop(), put(BLANK), drop(), drop(), put(SOFT), told(0)),
                         [[-9], [-9], [0], [0], [-9], [0], [1, 2]])

    def test_full(self):
        full = [put([0, 1, 97 + number]) for number in range(20)]
        self.assertEqual(ask(*full, put(BLANK), told(19), told(20), put(BLANK), drop(), put(named(18)), told(19))[20:],
                         [[-5], [1, 0, 1, 116], [-2], [-5], [19], [19], [1, 0, 1, 115]])

    def test_forced_and_too_long(self):
        long = row([0, 1000] + [97] * 1000, aligned(row(*[HARD, text("b")] * 30)))
        self.assertEqual(ask(put(HARD), flat(0), told(0), put(long), lay(0, 1), size(1), groups(0, 1)),
                         [[0], [-7], [1, 4], [1], [-8], [64, 4, 1030, 0, 1], [0]])


class LargestTest(unittest.TestCase):
    def test_40_calls(self):
        found = ask(put([9] * 39 + text("a")), *[lay(1, 0)] * 13, *[groups(0, 0)] * 13, *[told(0)] * 13)
        self.assertEqual(found[1:14], [[1, 1, 1, 97]] * 13)
        self.assertEqual(found[14:27], [[39] + [0] * 39] * 13)
        self.assertEqual(found[27:], [[40] + [9] * 39 + [0, 1, 97]] * 13)

    def test_many_numbers(self):
        # 5 rows of 3000 numbers, and calls to fill up.
        largest = [6, 597] + [3] * 594 + [0, 1000] + [97] * 1000 + [0, 1000] + [98] * 1000 + [0, 398] + [99] * 398
        self.assertEqual(len(largest), 3000)
        calls = [put(largest)] * 5 + [call for k in range(5) for call in (told(k), size(k), lay(0, k), flat(k))]
        self.assertLessEqual(len(joined(calls)), 17000)
        found = ask(*calls)
        self.assertEqual(found[5], [598] + largest)
        self.assertEqual(found[6], [598, 2, 2398, 0, 0])
        self.assertEqual(found[7], [1, 2398, 2398] + [97] * 1000 + [98] * 1000 + [99] * 398)
        self.assertEqual(found[5:9] * 5, found[5:])

    def test_longest_rows_of_no_document(self):
        for numbers in ([9] * 3000, [6, 1] * 1500, [7, 8] * 1500, [6, 2999] + [6] * 2998, [6, HUGE] + [1] * 2998,
                        [HUGE] * 3000, [-HUGE] * 3000, [0, 2998] + [97] * 2998):
            self.assertEqual(ask(*[put(numbers)] * 5), [[-1]] * 5)

    def test_long_rows_that_are_too_large(self):
        self.assertEqual(ask(put(row(*[BLANK] * 2998))), [[-4]])
        self.assertEqual(ask(put(row(*[BLANK] * 599)), *[put(row(*[named(0)] * 1499))] * 4)[1:], [[-4]] * 4)

    def test_many_groups(self):
        # The dearest to lay: no group fits, and each is found out only at the long text behind them all.
        chains = [[9] * 38 + BLANK] * 15
        document = row(*chains, [0, 1000] + [97] * 1000)
        found = ask(put(document), *[groups(999, 0)] * 10, groups(1000, 0))
        self.assertEqual(found[1:11], [[570] + [0] * 570] * 10)
        self.assertEqual(found[11], [570] + [1] * 570)


if __name__ == "__main__":
    unittest.main()
