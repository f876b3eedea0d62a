"""The interface: how calls and answers stand in their lists, and what stays as it was."""

import unittest

from tests.helper import (BLANK, FAR, GAP, HARD, HUGE, LINE, SOFT, aligned, ask, back, begin, drop, flat, group, groups,
                          indented, lay, least, lines, look, named, put, row, size, steps, text, told, written)
from widthlayout.desk import answers


class ReadOnly(list):
    """A list that can't be changed, not for a while either."""

    def refuse(self, *given, **named_ones):
        raise AssertionError("the list that was handed in is changed")

    append = extend = insert = pop = remove = clear = sort = reverse = refuse
    __setitem__ = __delitem__ = __iadd__ = __imul__ = refuse


def every_call():
    word = group(row(text("ab"), LINE, indented(2, aligned(text("cd"))), SOFT))
    return [drop(), put(word), put(row(named(0), HARD, named(0))), put([]), put([6, -1]), told(0), told(1), told(2),
            size(1), size(-1), flat(0), flat(1), flat(7), lay(3, 1), lay(-1, 0), lay(3, 9), groups(3, 1),
            groups(1001, 1), groups(3, 3), drop(), told(1), told(0)]


def every_other_call():
    """What every_call leaves out: lines, least, and those of a laying under way."""
    word = group(row(text("ab"), LINE, indented(2, aligned(text("cd"))), SOFT))
    return [look(), written(), steps(1), back(0), begin(3, 0), put(word), lines(3, 0), lines(-1, 0), lines(3, 1),
            least(0), least(1), begin(3, 0), look(), begin(5, 4), begin(1001, 0), steps(-1), steps(3), look(),
            written(), back(4), back(-1), back(1), look(), drop(), put(HARD), steps(HUGE), look(), written(), back(2),
            written(), lines(3, 0), begin(7, 0), look()]


def joined(calls):
    return [number for call in calls for number in call]


class AnswersTest(unittest.TestCase):
    def test_one_list(self):
        self.assertEqual(answers([1]), [1, -9])
        self.assertEqual(answers([0, 0]), [1, -1])
        self.assertEqual(answers([0, 3, 0, 1, 97, 2, 0, 3, 0, 4, 0, 5, 80, 0, 6, 80, 0, 1, 1]),
                         [1, 0, 4, 1, 0, 1, 97, 5, 1, 1, 1, 0, 0, 2, 1, 97, 4, 1, 1, 1, 97, 1, 0, 1, 0, 1, -9])
        self.assertEqual(answers([0, 3, 0, 1, 97, 7, 80, 0, 8, 0, 9, 80, 0, 10, 1, 11, 12, 13, 1, 11, 12, 12]),
                         [1, 0, 4, 1, 1, 0, 0, 1, 0, 1, 1, 2, 1, 0, 5, 1, 1, 0, 0, 0, 2, 1, 97, 1, 0,
                          8, 0, 0, 0, 0, 1, 0, 0, 0, 1, 0, 1, 0])

    def test_any_call_first(self):
        for call, answer in ((put(BLANK), 0), (drop(), -9), (told(0), -2), (size(0), -2), (flat(0), -2),
                             (lay(0, 0), -2), (groups(0, 0), -2), (lines(0, 0), -2), (least(0), -2),
                             (begin(0, 0), -2), (steps(0), -9), (look(), -9), (written(), -9), (back(0), -9)):
            self.assertEqual(answers(call), [1, answer])

    def test_any_call_first_with_numbers_at_their_edges(self):
        for number in FAR + (0, 1, 19, 20):
            for call in (told(number), size(number), flat(number), least(number)):
                self.assertEqual(answers(call), [1, -2])
            for call in (steps(number), back(number)):
                self.assertEqual(answers(call), [1, -9])
            for w, answer in ((-HUGE, -3), (-1, -3), (0, -2), (1, -2), (999, -2), (1000, -2), (1001, -3), (HUGE, -3)):
                for call in (lay(w, number), groups(w, number), lines(w, number), begin(w, number)):
                    self.assertEqual(answers(call), [1, answer])

    def test_whole_numbers_alone(self):
        for calls in (every_call(), every_other_call()):
            given = answers(joined(calls))
            self.assertIs(type(given), list)
            self.assertEqual({type(number) for number in given}, {int})

    def test_handed_in_stays(self):
        for calls in (every_call(), every_other_call()):
            handed = joined(calls)
            before = list(handed)
            given = answers(handed)
            self.assertEqual(handed, before)
            self.assertEqual(answers(ReadOnly(before)), given)

    def test_answers_are_not_shared(self):
        for calls in (every_call(), every_other_call()):
            handed = joined(calls)
            first = answers(handed)
            kept = list(first)
            first.reverse()
            first.append(0)
            self.assertEqual(answers(handed), kept)

    def test_nothing_is_kept(self):
        self.assertEqual(ask(put(BLANK), put(SOFT)), [[0], [1]])
        self.assertEqual(ask(told(0), put(GAP), told(0)), [[-2], [0], [1, 5]])
        self.assertEqual(ask(*every_call()), ask(*every_call()))
        self.assertEqual(ask(put(BLANK), begin(5, 0), steps(1)), [[0], [1], [1, 0]])
        self.assertEqual(ask(look(), written(), steps(1), back(0), begin(5, 0)), [[-9]] * 4 + [[-2]])
        self.assertEqual(ask(*every_other_call()), ask(*every_other_call()))


class RefusalsTest(unittest.TestCase):
    def test_object_is_as_it_was(self):
        word = group(row(text("ab"), LINE, text("cd")))
        deep = [9] * 39 + BLANK
        asked = [put(word), put(row(named(0), text(";"))), told(1), size(1), flat(0), lay(5, 0), lay(5, 1),
                 groups(5, 1), put(deep), drop(), put(HARD), told(2), lay(4, 1), drop(), drop(), told(0)]
        refused = [(put([]), -1), (put([6, 2, 1]), -1), (put(row(named(0), [11])), -1), (put(row(*[BLANK] * 600)), -4),
                   (put([6, 1] * 30 + row(*[named(0)] * 200)), -4), (told(20), -2), (told(-1), -2), (size(HUGE), -2),
                   (flat(-HUGE), -2), (lay(-1, 0), -3), (lay(1001, 0), -3), (lay(5, 20), -2), (groups(1001, 0), -3),
                   (groups(0, -1), -2), (lines(-1, 0), -3), (lines(0, 20), -2), (least(20), -2), (begin(1001, 0), -3),
                   (begin(0, 20), -2), (steps(1), -9), (look(), -9), (written(), -9), (back(0), -9)]
        plain = ask(*asked)
        for refusal, number in refused:
            mixed = [asked[0]]
            for call in asked[1:]:
                mixed += [refusal, call]
            found = ask(*mixed)
            self.assertEqual(found[::2], plain, refusal)
            self.assertEqual({tuple(answer) for answer in found[1::2]}, {(number,)}, refusal)

    def test_laying_is_as_it_was(self):
        word = group(row(text("ab"), LINE, text("cd")))
        asked = [put(word), begin(4, 0), steps(3), look(), written(), steps(1), look(), back(2), look(), lay(4, 0),
                 begin(5, 0), look(), steps(HUGE), look(), written(), drop(), look(), written()]
        plain = ask(*asked)
        for refusal, number in ((put([]), -1), (put(row(*[BLANK] * 600)), -4), (told(5), -2), (flat(5), -2),
                                (lay(-1, 0), -3), (groups(5, 5), -2), (lines(1001, 0), -3), (least(-1), -2),
                                (begin(-1, 0), -3), (begin(5, 5), -2), (steps(-1), -6), (back(-1), -6), (back(6), -6)):
            mixed = [asked[0], asked[1]]
            for call in asked[2:]:
                mixed += [refusal, call]
            found = ask(*mixed)
            self.assertEqual(found[:2] + found[3::2], plain, refusal)
            self.assertEqual({tuple(answer) for answer in found[2::2]}, {(number,)}, refusal)

    def test_drop_of_none(self):
        self.assertEqual(ask(drop(), drop(), put(BLANK), drop(), drop(), put(SOFT), told(0)),
                         [[-9], [-9], [0], [0], [-9], [0], [1, 2]])

    def test_full(self):
        full = [put([0, 1, 97 + number]) for number in range(20)]
        self.assertEqual(ask(*full, put(BLANK), told(19), told(20), put(BLANK), drop(), put(named(18)), told(19))[20:],
                         [[-5], [1, 0, 1, 116], [-2], [-5], [19], [19], [1, 0, 1, 115]])

    def test_forced_and_too_long(self):
        long = row([0, 1000] + [97] * 1000, aligned(row(*[HARD, text("b")] * 30)))
        self.assertEqual(ask(put(HARD), flat(0), told(0), put(long), lay(0, 1), size(1), groups(0, 1)),
                         [[0], [-7], [1, 4], [1], [-8], [64, 4, 1030, 0, 1], [0]])


class LargestTest(unittest.TestCase):
    def test_40_calls(self):
        found = ask(put([9] * 39 + text("a")), *[lay(1, 0)] * 13, *[groups(0, 0)] * 13, *[told(0)] * 13)
        self.assertEqual(found[1:14], [[1, 1, 1, 97]] * 13)
        self.assertEqual(found[14:27], [[39] + [0] * 39] * 13)
        self.assertEqual(found[27:], [[40] + [9] * 39 + [0, 1, 97]] * 13)

    def test_many_numbers(self):
        # 5 rows of 3000 numbers, and calls to fill up.
        largest = [6, 597] + [3] * 594 + [0, 1000] + [97] * 1000 + [0, 1000] + [98] * 1000 + [0, 398] + [99] * 398
        self.assertEqual(len(largest), 3000)
        calls = [put(largest)] * 5 + [call for k in range(5) for call in (told(k), size(k), lay(0, k), flat(k))]
        self.assertLessEqual(len(joined(calls)), 17000)
        found = ask(*calls)
        self.assertEqual(found[5], [598] + largest)
        self.assertEqual(found[6], [598, 2, 2398, 0, 0])
        self.assertEqual(found[7], [1, 2398, 2398] + [97] * 1000 + [98] * 1000 + [99] * 398)
        self.assertEqual(found[5:9] * 5, found[5:])

    def test_longest_rows_of_no_document(self):
        for numbers in ([9] * 3000, [6, 1] * 1500, [7, 8] * 1500, [6, 2999] + [6] * 2998, [6, HUGE] + [1] * 2998,
                        [HUGE] * 3000, [-HUGE] * 3000, [0, 2998] + [97] * 2998):
            self.assertEqual(ask(*[put(numbers)] * 5), [[-1]] * 5)

    def test_long_rows_that_are_too_large(self):
        self.assertEqual(ask(put(row(*[BLANK] * 2998))), [[-4]])
        self.assertEqual(ask(put(row(*[BLANK] * 599)), *[put(row(*[named(0)] * 1499))] * 4)[1:], [[-4]] * 4)

    def test_many_groups(self):
        # The dearest to lay: no group fits, and each is found out only at the long text behind them all.
        chains = [[9] * 38 + BLANK] * 15
        document = row(*chains, [0, 1000] + [97] * 1000)
        found = ask(put(document), *[groups(999, 0)] * 10, groups(1000, 0))
        self.assertEqual(found[1:11], [[570] + [0] * 570] * 10)
        self.assertEqual(found[11], [570] + [1] * 570)

    def test_steps_and_back_on_many_groups(self):
        document = row(*[[9] * 38 + BLANK] * 15, [0, 1000] + [97] * 1000)
        found = ask(put(document), begin(999, 0), steps(HUGE), *[back(1), steps(1)] * 12, *[back(0), look()] * 5,
                    least(0), lines(999, 0), back(587))
        self.assertEqual(found[2], [587, 0])
        self.assertEqual(found[3:27], [[586], [1, 0]] * 12)
        self.assertEqual(found[27:37], [[587], [587, 1000, 0, 0, 0]] * 5)
        self.assertEqual(found[37:], [[1000], [1, 1000, 0, 0], [0]])

    def test_steps_and_back_on_many_bytes(self):
        thousand = [0, 1000] + [97] * 1000
        farthest = row(*[named(0)] * 3, aligned(row(*[GAP, text("b")] * 296)))
        found = ask(put(thousand), put(farthest), begin(80, 1), steps(HUGE),
                    *[back(1), steps(1), look(), written()] * 8, lay(80, 1), lines(80, 1), back(598), steps(298))
        self.assertEqual(found[3], [598, 0])
        self.assertEqual(found[4:36], [[597], [1, 0], [598, 3001, 0, 0, 0], [-8]] * 8)
        self.assertEqual(found[36:], [[-8], [593, 3000, 0, 0] + [0, 0, 0, 3001, 3000, 0] * 296, [0], [298, 300]])


if __name__ == "__main__":
    unittest.main()
