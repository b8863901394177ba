"""sum and counts: promises 5, 6."""

import unittest

from tests.helper import CHANGE, GREATEST, LEAST, MOST, StateCase
from tests.helper import act, ask, can, counts, last, nested, reg, run, set_to, sum_of

# One register; up, down and pay change it, pay and gain are limited.
BOOK = [
    reg(0, "x"),
    act(0, "up", [0, CHANGE, 1]),
    act(0, "down", [0, CHANGE, -1]),
    act(0, "pay", [0, LEAST, 3, 0, CHANGE, -2]),
    act(0, "gain", [0, GREATEST, 5, 0, CHANGE, 4]),
    act(0, "watch", [0, LEAST, 1, 0, GREATEST, 2]),
]


class Refusals(StateCase):
    def refused(self, call, number):
        StateCase.refused(self, BOOK, call, number)


class TestSum(Refusals):
    def sums(self, text, *wanted):
        self.assertEqual(last(BOOK + [sum_of(text)]), [0] + list(wanted), text)

    def test_no_actions(self):
        for text in ("", "0(pay)", "5()", f"{MOST}({MOST}())", "3(0(gain))"):
            self.sums(text, 0, 0, 0, 0, 0, 0, 0, 0)

    def test_one_action(self):
        self.sums("up", 1, 0, 0, 0, 0, 1, 0, 1)
        self.sums("down", 1, 0, 0, 0, 0, -1, -1, 0)
        self.sums("pay", 1, 1, 3, 0, 0, -2, -2, 0)
        self.sums("gain", 1, 0, 0, 1, 5, 4, 0, 4)
        self.sums("watch", 1, 1, 1, 1, 2, 0, 0, 0)

    def test_one_behind_the_other(self):
        self.sums("pay gain", 2, 1, 3, 1, 7, 2, -2, 2)
        self.sums("gain pay", 2, 1, -1, 1, 5, 2, 0, 4)
        self.sums("up watch down", 3, 1, 0, 1, 1, 0, 0, 1)
        self.sums("down down watch up", 4, 1, 3, 1, 4, -1, -2, 0)

    def test_repeats(self):
        self.sums("4(pay)", 4, 1, 9, 0, 0, -8, -8, 0)
        self.sums("4(gain)", 4, 0, 0, 1, -7, 16, 0, 16)
        self.sums("1(pay)", 1, 1, 3, 0, 0, -2, -2, 0)
        self.sums("3(up up down)", 9, 0, 0, 0, 0, 3, 0, 4)
        self.sums("3(down down up)", 9, 0, 0, 0, 0, -3, -4, 0)
        self.sums("3(watch)", 3, 1, 1, 1, 2, 0, 0, 0)
        self.sums("2(watch 3(up))", 8, 1, 1, 1, -1, 6, 0, 6)
        self.sums("2(2(pay) up)", 6, 1, 8, 0, 0, -6, -7, 0)

    def test_no_value_will_do(self):
        self.sums("watch up up watch", 4, 1, 1, 1, 0, 2, 0, 2)

    def test_no_register(self):
        self.assertEqual(last([act(0, "a"), sum_of("7(a a)")]), [0, 14])

    def test_registers_do_not_mix(self):
        calls = [reg(0, "x"), reg(0, "y"), act(0, "swap", [0, LEAST, 2, 0, CHANGE, -2, 1, GREATEST, 9, 1, CHANGE, 3])]
        self.assertEqual(last(calls + [sum_of("3(swap)")]),
                         [0, 3, 1, 6, 0, 0, -6, -6, 0, 0, 0, 1, 3, 9, 0, 9])

    def test_register_that_came_later(self):
        calls = BOOK + [reg(7, "y")]
        self.assertEqual(last(calls + [sum_of("5(pay)")]), [0, 5, 1, 11, 0, 0, -10, -10, 0] + [0] * 7)

    def test_registers_hold_what_they_will(self):
        for value in (-MOST, 0, MOST):
            self.assertEqual(last(BOOK + [set_to(0, value), sum_of("pay")]), [0, 1, 1, 3, 0, 0, -2, -2, 0])

    def test_too_long_to_be_done(self):
        self.sums(f"{MOST}(pay)", MOST, 1, 3 + 2 * (MOST - 1), 0, 0, -2 * MOST, -2 * MOST, 0)
        length = MOST ** 40
        self.sums(nested(40, "pay"), length, 1, 2 * length + 1, 0, 0, -2 * length, -2 * length, 0)
        self.sums(nested(40, "gain"), length, 0, 0, 1, 5 - 4 * (length - 1), 4 * length, 0, 4 * length)
        self.sums(nested(40, "watch up down"), 3 * length, 1, 1, 1, 2, 0, 0, 1)
        self.sums(nested(3, "down up up"), 3 * MOST ** 3, 0, 0, 0, 0, MOST ** 3, -1, MOST ** 3)
        half = MOST ** 2
        self.sums(f"{MOST}({MOST}(up)) {MOST}({MOST}(down)) watch", 2 * half + 1, 1, 1, 1, 2, 0, 0, half)

    def test_refusals(self):
        for text in ("no", "2(", "?", "*(*(up))", " " * 4097):
            self.refused(sum_of(text), -2)
        for text in ("*(up)", "*()", "up *(down) up"):
            self.refused(sum_of(text), -3)
        for text in ("*(up) no", "*(up", "*(up) 00(up)"):
            self.refused(sum_of(text), -2)

    def test_says_where_it_can_be_done(self):
        for text in ("pay gain", "gain pay", "3(pay) gain", "2(watch up) down", "4(gain 2(pay))", "watch up up watch"):
            told = last(BOOK + [sum_of(text)])
            for value in range(-20, 20):
                fits = (not told[2] or value >= told[3]) and (not told[4] or value <= told[5])
                self.assertEqual(last(BOOK + [set_to(0, value), can(text)]), [0, 1 if fits else 0], (text, value))


class TestCounts(Refusals):
    def counted(self, text, *wanted):
        self.assertEqual(last(BOOK + [counts(text)]), [0] + list(wanted), text)

    def test_ordinary(self):
        self.counted("", 0, 0, 0, 0, 0)
        self.counted("pay", 0, 0, 1, 0, 0)
        self.counted("up 3(down 2(up)) watch up", 8, 3, 0, 0, 1)
        self.counted("0(up) 5() 2(0(down) gain)", 0, 0, 0, 2, 0)

    def test_whether_or_not_they_can_be_done(self):
        self.counted("7(pay watch gain)", 0, 0, 7, 7, 7)

    def test_without_actions_or_registers(self):
        self.assertEqual(last([counts("")]), [0])
        self.assertEqual(last([act(1, "a"), act(0, "b"), counts("2(a 5(b))")]), [0, 2, 10])

    def test_too_long_to_be_done(self):
        self.counted(nested(40, "up down down"), MOST ** 40, 2 * MOST ** 40, 0, 0, 0)
        self.counted(f"{MOST}(up {MOST}(down) up)", 2 * MOST, MOST ** 2, 0, 0, 0)

    def test_refusals(self):
        for text in ("no", "2(", "?", "*(*(up))", " " * 4097):
            self.refused(counts(text), -2)
        for text in ("*(up)", "*()", "up *(down) up"):
            self.refused(counts(text), -3)
        for text in ("*(up) no", "*(up", "*(up) 00(up)"):
            self.refused(counts(text), -2)

    def test_nothing_is_done(self):
        self.assertEqual(ask(BOOK + [sum_of("5(up)"), counts("5(up)"), run("")])[-1], [0, 0, 0])


if __name__ == "__main__":
    unittest.main()
