"""compare: promise 14."""

import unittest

from tests.helper import CHANGE, GREATEST, LEAST, MOST, StateCase
from tests.helper import act, compare, last, nested, propose, reg, set_to

# watch wants x at 1 or 2.
BOOK = [
    reg(0, "x"),
    act(0, "up", [0, CHANGE, 1]),
    act(0, "down", [0, CHANGE, -1]),
    act(0, "pay", [0, LEAST, 3, 0, CHANGE, -2]),
    act(0, "gain", [0, GREATEST, 5, 0, CHANGE, 4]),
    act(0, "watch", [0, LEAST, 1, 0, GREATEST, 2]),
    act(0, "rich", [0, LEAST, 5]),
    act(0, "poor", [0, GREATEST, -5]),
]


class TestCompare(StateCase):
    def told(self, one, other, *wanted):
        self.assertEqual(last(BOOK + [compare(one, other)]), [0] + list(wanted), (one, other))
        turned = [wanted[0], wanted[2], wanted[1]]
        self.assertEqual(last(BOOK + [compare(other, one)]), [0] + turned, (other, one))

    def refused(self, one, other, number):
        StateCase.refused(self, BOOK, compare(one, other), number)
        StateCase.refused(self, BOOK, compare(other, one), number)

    def test_with_itself(self):
        for text in ("", "up", "pay", "gain", "watch", "3(pay gain)", "watch up up watch", nested(40, "pay gain")):
            self.told(text, text, 1, 1, 1)

    def test_no_actions(self):
        for one in ("", "0(pay)", "5()"):
            for other in ("", "0(gain)", f"{MOST}()"):
                self.told(one, other, 1, 1, 1)

    def test_what_is_added(self):
        self.told("up", "down", 0, 1, 1)
        self.told("up", "up down up", 1, 1, 1)
        self.told("up down", "", 1, 1, 1)
        self.told("up up", "up", 0, 1, 1)

    def test_a_least_value_on_one_side(self):
        self.told("", "rich", 1, 1, 0)
        self.told("up", "pay", 0, 1, 0)

    def test_a_greatest_value_on_one_side(self):
        self.told("", "poor", 1, 1, 0)
        self.told("down", "gain", 0, 1, 0)

    def test_least_values_on_both_sides(self):
        self.told("pay", "rich pay", 1, 1, 0)
        self.told("2(up) pay 2(down)", "pay", 1, 1, 0)
        self.told("pay up up", "pay", 0, 1, 1)
        self.told("down down down rich 3(up)", "rich", 1, 0, 1)

    def test_greatest_values_on_both_sides(self):
        self.told("gain", "down gain up", 1, 0, 1)
        self.told("poor gain", "gain", 1, 0, 1)
        self.told("gain", "gain down", 0, 1, 1)

    def test_a_least_value_beside_a_greatest_one(self):
        self.told("rich", "poor", 1, 0, 0)
        self.told("pay", "gain", 0, 0, 0)

    def test_both_on_both_sides(self):
        self.told("watch", "up watch down", 1, 0, 0)
        self.told("watch", "watch up watch down", 1, 1, 0)
        self.told("watch", "pay up up", 1, 0, 0)
        self.told("watch", "watch up", 0, 1, 1)
        self.told("watch", "up", 0, 0, 1)

    def test_by_the_sums_where_no_value_will_do(self):
        self.told("watch up up watch", "watch", 0, 0, 1)
        self.told("rich", "watch up up watch", 0, 0, 0)
        self.told("rich poor", "poor rich", 1, 1, 1)

    def test_limits_at_nought_are_limits(self):
        calls = [reg(0, "x"), act(0, "low", [0, LEAST, 0]), act(0, "high", [0, GREATEST, 0]), act(0, "idle")]
        for text in ("low", "high"):
            self.assertEqual(last(calls + [compare(text, "idle")]), [0, 1, 0, 1])
            self.assertEqual(last(calls + [compare("idle", text)]), [0, 1, 1, 0])

    def test_whatever_the_registers_hold(self):
        for value in (-MOST, 0, 3, MOST):
            self.assertEqual(last(BOOK + [set_to(0, value), compare("pay", "rich pay")]), [0, 1, 1, 0])

    def test_every_register_counts(self):
        calls = [reg(0, "x"), reg(0, "y"), reg(0, "z"),
                 act(0, "a", [0, LEAST, 1, 1, LEAST, 2, 2, CHANGE, 1]),
                 act(0, "b", [0, LEAST, 1, 1, LEAST, 3, 2, CHANGE, 1]),
                 act(0, "c", [0, LEAST, 2, 1, LEAST, 2, 2, CHANGE, 2]),
                 act(0, "d", [2, GREATEST, 9, 2, CHANGE, 2])]
        self.assertEqual(last(calls + [compare("a", "b")]), [0, 1, 1, 0])
        self.assertEqual(last(calls + [compare("b", "c")]), [0, 0, 0, 0])
        self.assertEqual(last(calls + [compare("a", "c")]), [0, 0, 1, 0])
        self.assertEqual(last(calls + [compare("c", "d")]), [0, 1, 0, 0])

    def test_without_registers(self):
        self.assertEqual(last([act(0, "a"), compare("a", "7(a a)")]), [0, 1, 1, 1])
        self.assertEqual(last([compare("", "")]), [0, 1, 1, 1])

    def test_register_that_came_later(self):
        self.assertEqual(last(BOOK + [reg(9, "y"), compare("pay", "rich pay")]), [0, 1, 1, 0])

    def test_too_long_to_be_done(self):
        self.told(f"{MOST}(pay)", f"{MOST - 1}(pay) pay", 1, 1, 1)
        self.told(f"{MOST}({MOST}(pay))", f"{MOST}({MOST - 1}(pay))", 0, 0, 1)
        self.told(nested(40, "up"), nested(40, "up down up"), 1, 1, 1)
        self.told(f"{nested(40, 'down')} {nested(40, 'up')} rich", "rich", 1, 1, 1)

    def test_no_run(self):
        for wrong in ("no", "2(", "?", "*(*(up))", " " * 4097, "00(up)", "*(up) no", "*(up"):
            for other in ("", "up", "no", "*(up)", "*()"):
                self.refused(wrong, other, -2)

    def test_star(self):
        for starred in ("*(up)", "*()", "up *(pay) up"):
            for other in ("", "up", "*(down)", "*()"):
                self.refused(starred, other, -3)

    def test_nothing_is_done(self):
        self.changes_nothing(BOOK, compare("up", "down"))
        self.changes_nothing(BOOK + [propose(0, "up")], compare("up", "down"))


if __name__ == "__main__":
    unittest.main()
