"""can, run, reach, at, and stars: promises 7, 8, 9, 10."""

import unittest

from tests.helper import BIG, CHANGE, GREATEST, LEAST, MOST, StateCase
from tests.helper import act, ask, at, can, last, nested, reach, reg, run, set_to

# x is paid from and gained to, y counts; watch wants x at 1 or 2 and changes nothing; never can't ever be done.
BOOK = [
    reg(10, "x"),
    reg(0, "y"),
    act(0, "pay", [0, LEAST, 3, 0, CHANGE, -3, 1, CHANGE, 1]),
    act(0, "gain", [0, GREATEST, 20, 0, CHANGE, 5]),
    act(0, "watch", [0, LEAST, 1, 0, GREATEST, 2]),
    act(0, "never", [0, LEAST, 1, 0, GREATEST, 0]),
    act(0, "free", [1, CHANGE, 1]),
    act(0, "idle"),
]


class Doing(StateCase):
    def told(self, call, *wanted):
        self.assertEqual(last(BOOK + [call]), list(wanted))

    def refused(self, call, number):
        StateCase.refused(self, BOOK, call, number)

    def changes_nothing(self, call):
        StateCase.changes_nothing(self, BOOK, call)


NO_RUNS = ("no", "2(", "?", "*(*(pay))", " " * 4097, "00(pay)")
# Texts that are no runs though what stands ahead of what's wrong goes on for ever, or can't be done.
NO_RUNS_EITHER = ("*(free) no", "*(free", "never no", "never *(free) 2(", "*(idle) 01()")


class TestCan(Doing):
    def test_ordinary(self):
        self.told(can(""), 0, 1)
        self.told(can("pay"), 0, 1)
        self.told(can("3(pay)"), 0, 1)
        self.told(can("4(pay)"), 0, 0)
        self.told(can("3(pay) watch"), 0, 1)
        self.told(can("2(pay) watch"), 0, 0)
        self.told(can("2(gain) gain gain"), 0, 0)
        self.told(can("3(gain)"), 0, 1)
        self.told(can("0(never)"), 0, 1)
        self.told(can("5(0(never) idle)"), 0, 1)
        self.told(can("never"), 0, 0)

    def test_stars(self):
        self.told(can("*(pay)"), 0, 1)
        self.told(can("*(pay) watch"), 0, 1)
        self.told(can("*(pay) pay"), 0, 0)
        self.told(can("*(never)"), 0, 1)
        self.told(can("never *(free)"), 0, 0)

    def test_nothing_is_done(self):
        for text in ("3(pay)", "4(pay)", "*(pay)", "*(free)"):
            self.changes_nothing(can(text))

    def test_refusals(self):
        for text in NO_RUNS + NO_RUNS_EITHER:
            self.refused(can(text), -2)
        for text in ("*(free)", "*(idle)", "pay *(free) never", "*(pay) *(free) *(pay)"):
            self.refused(can(text), -8)


class TestRun(Doing):
    def test_ordinary(self):
        self.told(run("pay"), 0, 1, 7, 1)
        self.told(run("3(pay)"), 0, 3, 1, 3)
        self.told(run("2(gain 2(pay))"), 0, 6, 8, 4)
        self.told(run(""), 0, 0, 10, 0)
        self.told(run("0(never) 9()"), 0, 0, 10, 0)

    def test_is_done(self):
        found = ask(BOOK + [run("pay"), run("2(pay)"), run("pay"), run("gain free"), reach("")])
        self.assertEqual(found[-5:], [[0, 1, 7, 1], [0, 2, 1, 3], [-7], [0, 2, 6, 4], [0, 0, 1, 6, 4]])

    def test_stars(self):
        self.told(run("*(pay)"), 0, 3, 1, 3)
        self.told(run("*(gain)"), 0, 3, 25, 0)
        self.told(run("*(pay) *(gain)"), 0, 7, 21, 3)

    def test_each_time_anew(self):
        found = ask(BOOK + [run("*(pay)"), run("*(pay)"), set_to(0, 31), run("*(pay)")])
        self.assertEqual([found[-4], found[-3], found[-1]], [[0, 3, 1, 3], [0, 0, 1, 3], [0, 10, 1, 13]])

    def test_cannot_be_done(self):
        for text in ("never", "4(pay)", "3(pay) pay", "pay watch", "*(pay) pay", "never *(free)", nested(40, "pay")):
            self.refused(run(text), -7)

    def test_refusals(self):
        for text in NO_RUNS + NO_RUNS_EITHER:
            self.refused(run(text), -2)
        for text in ("*(free)", "*(idle)", "pay *(free) never", "*(pay) *(free) *(pay)"):
            self.refused(run(text), -8)

    def test_way_beyond_big_and_back(self):
        calls = [reg(0, "x"), act(0, "up", [0, CHANGE, MOST]), act(0, "down", [0, CHANGE, -MOST])]
        length = 2 * MOST ** 5 + 1
        self.assertEqual(last(calls + [run(f"{nested(5, 'up')} {nested(5, 'down')} up")]), [0, length, MOST])


class TestBig(unittest.TestCase):
    BOOK = [
        reg(0, "x"),
        reg(5, "y"),
        act(0, "up", [0, CHANGE, MOST]),
        act(0, "down", [0, CHANGE, -MOST]),
        act(0, "inc", [0, CHANGE, 1]),
        act(0, "dec", [0, CHANGE, -1]),
        act(0, "low", [0, GREATEST, 0]),
        act(0, "more", [1, CHANGE, MOST]),
    ]

    def after(self, first, then):
        return ask(self.BOOK + [run(first), run(then), reach("")])[-2:]

    def test_at_big(self):
        self.assertEqual(last(self.BOOK + [run(f"{MOST}(up)")]), [0, MOST, BIG, 5])
        self.assertEqual(last(self.BOOK + [run(f"{MOST}(down)")]), [0, MOST, -BIG, 5])

    def test_beyond_big(self):
        self.assertEqual(self.after(f"{MOST}(up)", "inc"), [[-4], [0, 0, 1, BIG, 5]])
        self.assertEqual(self.after(f"{MOST}(down)", "dec"), [[-4], [0, 0, 1, -BIG, 5]])
        self.assertEqual(last(self.BOOK + [run(f"{MOST}(up) inc")]), [-4])
        self.assertEqual(last(self.BOOK + [run(f"{MOST}(down) dec")]), [-4])
        self.assertEqual(last(self.BOOK + [run(nested(40, "up"))]), [-4])
        self.assertEqual(last(self.BOOK + [run(f"{MOST}(more)")]), [-4])

    def test_back_from_big(self):
        self.assertEqual(self.after(f"{MOST}(up)", "inc dec"), [[0, 2, BIG, 5], [0, 0, 1, BIG, 5]])
        self.assertEqual(self.after(f"{MOST}(up)", "dec"), [[0, 1, BIG - 1, 5], [0, 0, 1, BIG - 1, 5]])
        self.assertEqual(self.after(f"{MOST}(down)", "inc"), [[0, 1, 1 - BIG, 5], [0, 0, 1, 1 - BIG, 5]])

    def test_cannot_be_done_is_told_first_where_both_would_be(self):
        self.assertEqual(self.after(f"{MOST}(up)", "inc low"), [[-7], [0, 0, 1, BIG, 5]])

    def test_reach_and_at_go_beyond_big(self):
        self.assertEqual(last(self.BOOK + [run(f"{MOST}(up)"), reach("inc")]), [0, 1, 1, BIG + 1, 5])
        self.assertEqual(last(self.BOOK + [run(f"{MOST}(down)"), at(1, "dec dec")]), [0, -BIG - 1, 5])
        self.assertEqual(last(self.BOOK + [reach(nested(40, "up"))]), [0, MOST ** 40, 1, MOST ** 41, 5])

    def test_can_does_not_mind(self):
        self.assertEqual(last(self.BOOK + [can(nested(3, "up"))]), [0, 1])


class TestReach(Doing):
    def test_all_of_them(self):
        self.told(reach(""), 0, 0, 1, 10, 0)
        self.told(reach("3(pay)"), 0, 3, 1, 1, 3)
        self.told(reach("0(never)"), 0, 0, 1, 10, 0)
        self.told(reach("2(gain 2(pay))"), 0, 6, 1, 8, 4)

    def test_not_all(self):
        self.told(reach("never"), 0, 0, 0, 10, 0)
        self.told(reach("4(pay)"), 0, 3, 0, 1, 3)
        self.told(reach("pay never pay"), 0, 1, 0, 7, 1)
        self.told(reach("2(pay free) 2(pay) idle"), 0, 5, 0, 1, 5)
        self.told(reach("6(2(pay) gain)"), 0, 16, 0, 2, 11)
        self.told(reach("idle 9(idle 9(pay))"), 0, 5, 0, 1, 3)
        self.told(reach("3(3(idle) 0(never)) watch"), 0, 9, 0, 10, 0)

    def test_nothing_is_done(self):
        for text in ("3(pay)", "4(pay)", "*(pay)", "*(free)", "never"):
            self.changes_nothing(reach(text))

    def test_refusals(self):
        for text in NO_RUNS + NO_RUNS_EITHER:
            self.refused(reach(text), -2)
        for text in ("*(free)", "*(idle)", "pay *(free) never", "*(pay) *(free) *(pay)"):
            self.refused(reach(text), -8)

    def test_too_long_to_be_done(self):
        calls = [reg(MOST, "x"), act(0, "dec", [0, LEAST, 1, 0, CHANGE, -1]), act(0, "idle")]
        self.assertEqual(last(calls + [reach(nested(40, "dec"))]), [0, MOST, 0, 0])
        self.assertEqual(last(calls + [reach(nested(39, "7(idle) dec"))]), [0, 8 * MOST + 7, 0, 0])
        self.assertEqual(last(calls + [reach(nested(40, "idle"))]), [0, MOST ** 40, 1, MOST])
        # Three rounds are done, and a third of the fourth; one idle more, then dec can't be done.
        text = "1000(3(100000000(idle dec)) idle)"
        self.assertEqual(last(calls + [reach(text)]), [0, 2 * MOST + 4, 0, 0])

    def test_stops_in_the_last_of_very_many(self):
        calls = [reg(MOST, "x"), act(0, "dec", [0, LEAST, 2, 0, CHANGE, -1]), act(0, "idle")]
        self.assertEqual(last(calls + [reach(f"{MOST}(dec)")]), [0, MOST - 1, 0, 1])
        self.assertEqual(last(calls + [reach(f"{MOST - 1}(dec)")]), [0, MOST - 1, 1, 1])
        self.assertEqual(last(calls + [reach(f"{MOST}({MOST}(idle) dec)")]), [0, MOST ** 2 + MOST - 1, 0, 1])


class TestAt(Doing):
    def test_each_step(self):
        wanted = [[10, 0], [7, 1], [4, 2], [9, 2], [6, 3], [3, 4], [8, 4]]
        for k, held in enumerate(wanted):
            self.told(at(k, "2(2(pay) gain)"), 0, *held)
        self.refused(at(7, "2(2(pay) gain)"), -7)

    def test_up_to_what_reach_tells(self):
        self.told(at(3, "9(pay)"), 0, 1, 3)
        self.refused(at(4, "9(pay)"), -7)
        self.told(at(1, "pay never pay"), 0, 7, 1)
        self.refused(at(2, "pay never pay"), -7)
        self.told(at(0, "never"), 0, 10, 0)
        self.told(at(0, ""), 0, 10, 0)
        self.refused(at(1, ""), -7)
        self.refused(at(BIG, "pay"), -7)

    def test_below_nought(self):
        for k in (-1, -BIG):
            for text in ("", "pay", "never", "*(pay)", "*(free)", "*(idle) never"):
                self.refused(at(k, text), -7)

    def test_empty_repeats_between(self):
        self.told(at(1, "0(never) free 5() 3(0(pay)) free"), 0, 10, 1)
        self.told(at(2, "0(never) free 5() 3(0(pay)) free"), 0, 10, 2)

    def test_stars(self):
        self.told(at(3, "*(pay) *(gain)"), 0, 1, 3)
        self.told(at(4, "*(pay) *(gain)"), 0, 6, 3)
        self.told(at(7, "*(pay) *(gain)"), 0, 21, 3)
        self.refused(at(8, "*(pay) *(gain)"), -7)

    def test_nothing_is_done(self):
        for k in (0, 1, 3):
            self.changes_nothing(at(k, "3(pay)"))

    def test_refusals(self):
        for k in (-1, 0, 1, BIG):
            for text in NO_RUNS + NO_RUNS_EITHER:
                self.refused(at(k, text), -2)
        for k in (0, 1, BIG):
            for text in ("*(free)", "*(idle)", "pay *(free) never"):
                self.refused(at(k, text), -8)

    def test_too_long_to_be_done(self):
        calls = [reg(0, "x"), reg(0, "y"), act(0, "a", [0, CHANGE, 1]), act(0, "b", [1, CHANGE, 1])]
        text = f"{MOST}({MOST}(a) b)"
        for k in (0, 1, MOST - 1, MOST, MOST + 1, MOST + 2, 10 ** 15, BIG):
            rounds, rest = divmod(k, MOST + 1)
            self.assertEqual(last(calls + [at(k, text)]), [0, rounds * MOST + rest, rounds])
        self.assertEqual(last(calls + [at(BIG, nested(40, "a"))]), [0, BIG, 0])
        self.assertEqual(last(calls + [at(BIG, nested(40, "a b"))]), [0, BIG // 2, BIG // 2])
        self.assertEqual(last(calls + [at(BIG - 1, nested(39, "2(a) b"))]), [0, (BIG - 1) // 3 * 2, (BIG - 1) // 3])


class TestStars(Doing):
    def test_as_often_as_it_can_be_done(self):
        self.told(reach("*(pay)"), 0, 3, 1, 1, 3)
        self.told(reach("*(2(pay))"), 0, 2, 1, 4, 2)
        self.told(reach("*(pay free)"), 0, 6, 1, 1, 6)
        self.told(reach("*(2(pay) gain)"), 0, 15, 1, 5, 10)
        self.told(reach("*(gain)"), 0, 3, 1, 25, 0)

    def test_nought_times(self):
        self.told(reach("*(never)"), 0, 0, 1, 10, 0)
        self.told(reach("*(free never)"), 0, 0, 1, 10, 0)
        self.told(reach("*(4(pay))"), 0, 0, 1, 10, 0)
        self.told(reach("free *(watch) free"), 0, 2, 1, 10, 2)

    def test_row_without_an_action(self):
        for text in ("*()", "*(0(free))", "*(5(0(never) 3()))", "*() *(0(idle))"):
            self.told(reach(text), 0, 0, 1, 10, 0)
            self.told(run(text), 0, 0, 10, 0)
            self.told(can(text), 0, 1)
            self.refused(at(1, text), -7)

    def test_behind_an_action_that_cannot_be_done(self):
        self.told(reach("never *(free)"), 0, 0, 0, 10, 0)
        self.told(reach("free never free *(idle) free"), 0, 1, 0, 10, 1)
        self.told(reach("2(2(pay)) *(free)"), 0, 3, 0, 1, 3)
        self.told(can("never *(free)"), 0, 0)
        self.refused(run("never *(free)"), -7)
        self.refused(run("never *(pay)"), -7)
        self.refused(at(1, "never *(free)"), -7)
        self.told(at(0, "never *(free)"), 0, 10, 0)
        # pay could be done where never stands, but the star stands behind never.
        self.told(reach("pay watch *(pay)"), 0, 1, 0, 7, 1)

    def test_for_ever(self):
        for text in ("*(idle)", "*(free)", "*(3(gain) 5(pay))", "*(3(0(never) idle))", "pay *(free)", "*(free) never"):
            for call in (can(text), run(text), reach(text), at(0, text)):
                self.refused(call, -8)

    def test_for_ever_by_its_limits(self):
        up = act(0, "up", [0, LEAST, 5, 0, CHANGE, 1])
        down = act(0, "down", [0, GREATEST, 5, 0, CHANGE, -1])
        stay = act(0, "stay", [0, LEAST, 5, 0, GREATEST, 5])
        for value, texts in ((5, ("*(up)", "*(down)", "*(stay)")), (6, ("*(up)",)), (4, ("*(down)",))):
            for text in texts:
                self.assertEqual(last([reg(value, "x"), up, down, stay, can(text)]), [-8], (value, text))
        for value, texts in ((4, ("*(up)", "*(stay)", "*(up down)")), (6, ("*(down)", "*(stay)", "*(down up)"))):
            for text in texts:
                self.assertEqual(last([reg(value, "x"), up, down, stay, reach(text)]), [0, 0, 1, value], (value, text))

    def test_without_registers(self):
        self.assertEqual(last([act(0, "a"), run("*(a)")]), [-8])
        self.assertEqual(last([act(0, "a"), run("*() 3(a)")]), [0, 3])

    def test_two_one_behind_the_other(self):
        self.told(reach("*(2(pay)) *(pay)"), 0, 3, 1, 1, 3)
        self.told(reach("*(pay) *(pay)"), 0, 3, 1, 1, 3)
        self.told(reach("*(pay) *(gain) *(pay)"), 0, 14, 1, 0, 10)
        self.told(reach("*(pay)*(gain)*(2(pay) gain)"), 0, 7 + 3 * 16, 1, 5, 35)
        self.told(reach("*(never) *(pay)"), 0, 3, 1, 1, 3)
        self.refused(reach("*(pay) *(free)"), -8)
        self.refused(reach("*(free) *(pay)"), -8)

    def test_eight(self):
        steps = 3 + 4 + 7 + 5 + 8 + 4 + 7 + 5
        self.told(reach("*(pay) *(gain) " * 4), 0, steps, 1, 25, 3 + 7 + 8 + 7)

    def test_very_often(self):
        calls = [reg(MOST, "x"), reg(0, "y"),
                 act(0, "dec", [0, LEAST, 1, 0, CHANGE, -1, 1, CHANGE, MOST]),
                 act(0, "back", [1, LEAST, 7, 1, CHANGE, -7]),
                 act(0, "stop", [1, GREATEST, 0])]
        self.assertEqual(last(calls + [reach("*(dec)")]), [0, MOST, 1, 0, BIG])
        times = BIG // 7
        self.assertEqual(last(calls + [reach("*(dec) *(back)")]), [0, MOST + times, 1, 0, BIG - 7 * times])
        self.assertEqual(last(calls + [run("*(dec) *(back) dec")]), [-7])
        self.assertEqual(last(calls + [at(MOST + 5, "*(dec) *(back) stop")]), [0, 0, BIG - 35])
        self.assertEqual(last(calls + [reach("*(dec) *(back) stop")]), [0, MOST + times, 0, 0, BIG - 7 * times])


if __name__ == "__main__":
    unittest.main()
