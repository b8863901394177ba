"""reg, act, set: promises 0, 1, 2."""

import unittest

from tests.helper import BIG, CHANGE, GREATEST, LEAST, MOST, StateCase
from tests.helper import act, ask, counts, last, reach, read, reg, run, set_to, sum_of

EIGHT = [reg(k, "r" + letter) for k, letter in enumerate("abcdefgh")]
SIXTEEN = [act(0, "a" + letter) for letter in "abcdefghijklmnop"]


class TestReg(StateCase):
    def test_numbers_in_order(self):
        found = ask([reg(5, "x"), reg(-7, "y"), reach("")])
        self.assertEqual(found, [[0, 0], [0, 1], [0, 0, 1, 5, -7]])

    def test_eight_and_one_more(self):
        self.assertEqual(ask(EIGHT), [[0, k] for k in range(8)])
        self.assertEqual(last(EIGHT + [reach("")]), [0, 0, 1, 0, 1, 2, 3, 4, 5, 6, 7])
        self.refused(EIGHT, reg(0, "more"), -4)

    def test_values_at_the_edges(self):
        self.assertEqual(ask([reg(MOST, "x"), reg(-MOST, "y"), reach("")])[-1], [0, 0, 1, MOST, -MOST])
        for value in (MOST + 1, -MOST - 1, BIG, -BIG):
            self.refused([], reg(value, "x"), -1)

    def test_names_by_length(self):
        self.assertEqual(ask([reg(0, "a"), reg(0, "abcdefgh"), reg(0, "zzzzzzzz")]), [[0, 0], [0, 1], [0, 2]])
        for name in ("", "abcdefghi", "a" * 5000):
            self.refused([], reg(0, name), -1)

    def test_names_by_letters(self):
        for name in ("A", "a b", "a1", "1", " a", "a ", "`", "{", "a\x00", "\xff", "*", "_"):
            self.refused([], reg(0, name), -1)

    def test_every_byte_as_a_name(self):
        for byte in range(256):
            wanted = [0, 0] if 97 <= byte <= 122 else [-1]
            self.assertEqual(last([reg(0, [byte])]), wanted, byte)

    def test_name_taken(self):
        self.refused([reg(1, "x"), reg(2, "y")], reg(3, "x"), -5)
        self.refused([reg(1, "x"), reg(2, "y")], reg(3, "y"), -5)

    def test_name_of_a_refused_one_is_free(self):
        self.assertEqual(ask([reg(MOST + 1, "x"), reg(1, "x")]), [[-1], [0, 0]])

    def test_register_and_action_may_share_a_name(self):
        self.assertEqual(ask([act(0, "x"), reg(1, "x"), reg(1, "y"), act(1, "y")]), [[0, 0], [0, 0], [0, 1], [0, 1]])

    def test_two_refusals_at_once(self):
        self.refused(EIGHT, reg(MOST + 1, "more"), -1)
        self.refused(EIGHT, reg(0, ""), -1)
        self.refused(EIGHT, reg(0, "ra"), -4)
        self.refused(EIGHT, reg(MOST + 1, "ra"), -1)
        self.refused([reg(0, "x")], reg(-MOST - 1, "x"), -1)


class TestAct(StateCase):
    def test_numbers_in_order(self):
        found = ask([act(0, "a"), act(1, "b"), counts("b 3(a) b")])
        self.assertEqual(found, [[0, 0], [0, 1], [0, 3, 2]])

    def test_what_it_tells(self):
        calls = [reg(0, "x"), reg(0, "y"), act(1, "a", [1, LEAST, 4, 1, GREATEST, 9, 0, CHANGE, -3])]
        self.assertEqual(last(calls + [sum_of("a")]), [0, 1, 0, 0, 0, 0, -3, -3, 0, 1, 4, 1, 9, 0, 0, 0])

    def test_empty_row(self):
        self.assertEqual(last([reg(0, "x"), act(0, "a", []), sum_of("a")]), [0, 1, 0, 0, 0, 0, 0, 0, 0])

    def test_several_of_one_kind(self):
        row = [0, LEAST, 2, 0, LEAST, 5, 0, LEAST, 3, 0, GREATEST, 9, 0, GREATEST, 7, 0, GREATEST, 8]
        row += [0, CHANGE, 4, 0, CHANGE, -1, 0, CHANGE, 10]
        self.assertEqual(last([reg(0, "x"), act(0, "a", row), sum_of("a")]), [0, 1, 1, 5, 1, 7, 13, 0, 13])

    def test_least_above_greatest(self):
        calls = [reg(5, "x"), act(0, "a", [0, LEAST, 6, 0, GREATEST, 4])]
        self.assertEqual(last(calls + [sum_of("a")]), [0, 1, 1, 6, 1, 4, 0, 0, 0])
        for value in (3, 4, 5, 6, 7):
            self.assertEqual(last(calls + [set_to(0, value), reach("a")]), [0, 0, 0, value])

    def test_changes_are_summed_beyond_most(self):
        self.assertEqual(last([reg(0, "x"), act(0, "a", [0, CHANGE, MOST] * 1666), sum_of("a")]),
                         [0, 1, 0, 0, 0, 0, 1666 * MOST, 0, 1666 * MOST])

    def test_values_at_the_edges(self):
        for kind in (LEAST, GREATEST, CHANGE):
            for value in (MOST, -MOST):
                self.assertEqual(last([reg(0, "x"), act(0, "a", [0, kind, value])]), [0, 0])
            for value in (MOST + 1, -MOST - 1, BIG, -BIG):
                self.refused([reg(0, "x")], act(0, "a", [0, kind, value]), -1)

    def test_limits_at_nought_are_limits(self):
        calls = [reg(0, "x"), act(0, "a", [0, LEAST, 0, 0, GREATEST, 0])]
        self.assertEqual(last(calls + [sum_of("a")]), [0, 1, 1, 0, 1, 0, 0, 0, 0])

    def test_register_that_came_later(self):
        calls = [reg(1, "x"), act(0, "a", [0, CHANGE, 2]), reg(3, "y")]
        self.assertEqual(last(calls + [sum_of("a")]), [0, 1, 0, 0, 0, 0, 2, 0, 2, 0, 0, 0, 0, 0, 0, 0])
        self.assertEqual(last(calls + [run("4(a)")]), [0, 4, 9, 3])

    def test_sixteen_and_one_more(self):
        self.assertEqual(ask(SIXTEEN), [[0, k] for k in range(16)])
        self.assertEqual(last(SIXTEEN + [counts("ap aa ap")]), [0, 1] + [0] * 14 + [2])
        self.refused(SIXTEEN, act(0, "more"), -4)
        self.assertEqual(last(SIXTEEN + [act(0, "more"), read("more")]), [0, 1])

    def test_must(self):
        for must in (-1, 2, BIG, -BIG):
            self.refused([], act(must, "a"), -1)

    def test_names(self):
        self.assertEqual(ask([act(0, "a"), act(0, "abcdefgh")]), [[0, 0], [0, 1]])
        for name in ("", "abcdefghi", "a" * 5000, "A", "a b", "a1", "`", "{", "\xff"):
            self.refused([], act(0, name), -1)

    def test_row_not_by_threes(self):
        for row in ([0], [0, CHANGE], [0, CHANGE, 1, 0], [0, CHANGE, 1, 0, CHANGE]):
            self.refused([reg(0, "x")], act(0, "a", row), -1)

    def test_no_such_register(self):
        for number in (-1, 1, 8, BIG, -BIG):
            self.refused([reg(0, "x")], act(0, "a", [number, CHANGE, 1]), -1)
        self.refused([], act(0, "a", [0, CHANGE, 1]), -1)

    def test_no_such_kind(self):
        for kind in (-1, 3, BIG, -BIG):
            self.refused([reg(0, "x")], act(0, "a", [0, kind, 1]), -1)

    def test_wrong_behind_right(self):
        for wrong in ([1, CHANGE, 1], [0, 3, 1], [0, CHANGE, MOST + 1]):
            self.refused([reg(0, "x")], act(0, "a", [0, CHANGE, 1] + wrong), -1)

    def test_name_taken(self):
        before = [reg(0, "x"), act(0, "a", [0, CHANGE, 1]), act(1, "b")]
        self.refused(before, act(0, "a"), -5)
        self.refused(before, act(0, "b"), -5)
        self.assertEqual(last(before + [act(0, "a", [0, CHANGE, 5]), run("a")]), [0, 1, 1])

    def test_two_refusals_at_once(self):
        self.refused(SIXTEEN, act(2, "more"), -1)
        self.refused(SIXTEEN, act(0, "more", [0]), -1)
        self.refused(SIXTEEN, act(0, "aa"), -4)
        self.refused(SIXTEEN, act(0, "aa", [0, 0, 0]), -1)
        self.refused([act(0, "a")], act(0, "a", [0, 0, 0]), -1)
        self.refused([act(0, "a")], act(2, "a"), -1)


class TestSet(StateCase):
    def test_sets_that_one(self):
        found = ask([reg(1, "x"), reg(2, "y"), reg(3, "z"), set_to(1, 9), reach("")])
        self.assertEqual(found[-2:], [[0], [0, 0, 1, 1, 9, 3]])
        self.assertEqual(last([reg(1, "x"), reg(2, "y"), set_to(0, -4), reach("")]), [0, 0, 1, -4, 2])
        self.assertEqual(last([reg(1, "x"), reg(2, "y"), set_to(1, -4), reach("")]), [0, 0, 1, 1, -4])

    def test_values_at_the_edges(self):
        for value in (MOST, -MOST, 0):
            self.assertEqual(ask([reg(1, "x"), set_to(0, value), reach("")])[1:], [[0], [0, 0, 1, value]])
        for value in (MOST + 1, -MOST - 1, BIG, -BIG):
            self.refused([reg(1, "x")], set_to(0, value), -1)

    def test_no_such_register(self):
        for number in (-1, 2, 8, BIG, -BIG):
            self.refused([reg(1, "x"), reg(2, "y")], set_to(number, 0), -1)
        self.refused([], set_to(0, 0), -1)

    def test_both_wrong(self):
        self.refused([reg(1, "x")], set_to(1, MOST + 1), -1)


if __name__ == "__main__":
    unittest.main()
