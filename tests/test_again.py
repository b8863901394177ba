"""most and ever: promises 12, 13."""

import unittest

from tests.helper import CHANGE, GREATEST, LEAST, MOST, StateCase
from tests.helper import act, ask, ever, last, most, nested, propose, reg, run, set_to

# pay and gain are limited, watch wants x at 1 or 2, never can't ever be done; rest, up and down must be done.
BOOK = [
    reg(10, "x"),
    reg(0, "y"),
    act(0, "pay", [0, LEAST, 3, 0, CHANGE, -3, 1, CHANGE, 1]),
    act(0, "gain", [0, GREATEST, 20, 0, CHANGE, 5]),
    act(0, "watch", [0, LEAST, 1, 0, GREATEST, 2]),
    act(1, "never", [0, LEAST, 1, 0, GREATEST, 0]),
    act(0, "free", [1, CHANGE, 1]),
    act(0, "idle"),
    act(1, "rest"),
    act(1, "up", [0, CHANGE, 1]),
    act(1, "down", [0, CHANGE, -1]),
    act(1, "stay", [0, LEAST, 10, 0, GREATEST, 10]),
]
WITHOUT_ACTIONS = ("", "   ", "0(pay)", "0(never)", "5()", f"{MOST}({MOST}())", "3(0(free) 2(0(up)))")


class Again(StateCase):
    def told(self, call, *wanted):
        self.assertEqual(last(BOOK + [call]), [0] + list(wanted), call)

    def refused(self, call, number):
        StateCase.refused(self, BOOK, call, number)

    def refused_for_its_text(self, call):
        for text in ("no", "2(", "?", "*(*(up))", " " * 4097, "00(up)"):
            self.refused(call(text), -2)
        for text in ("*(up)", "*()", "up *(down) up", "*(free)", "*(never)", "never *(idle)", "*(0(up))"):
            self.refused(call(text), -3)
        for text in ("*(up) no", "*(free", "*(idle) 00(up)"):
            self.refused(call(text), -2)


class TestMost(Again):
    def test_some_number_of_times(self):
        self.told(most("pay"), 3)
        self.told(most("2(pay)"), 1)
        self.told(most("3(pay)"), 1)
        self.told(most("gain"), 3)
        self.told(most("2(pay) gain"), 5)
        self.told(most("pay idle 0(never)"), 3)

    def test_not_once(self):
        for text in ("never", "4(pay)", "watch", "free never", "2(gain) gain gain", "idle watch", nested(40, "pay")):
            self.told(most(text), 0)

    def test_just_once_and_not_quite(self):
        for value, times in ((2, 0), (3, 1), (5, 1), (6, 2)):
            self.assertEqual(last(BOOK + [set_to(0, value), most("pay")]), [0, times])
        for value, times in ((21, 0), (20, 1), (16, 1), (15, 2)):
            self.assertEqual(last(BOOK + [set_to(0, value), most("gain")]), [0, times])

    def test_can_be_done_so_often_and_no_more(self):
        for text in ("pay", "2(pay) gain", "gain", "4(pay)", "pay up", "gain 2(down)", "2(gain) 3(pay)"):
            times = last(BOOK + [most(text)])[1]
            self.assertEqual(last(BOOK + [run(f"{times}({text})")])[0], 0, text)
            self.assertEqual(last(BOOK + [run(f"{times + 1}({text})")]), [-7], text)

    def test_any_number_of_times(self):
        for text in ("free", "idle", "up", "down", "up down", "3(gain) 5(pay)", "stay", "stay up down"):
            self.refused(most(text), -8)
        self.assertEqual(last(BOOK + [set_to(0, 1), most("watch")]), [-8])
        self.assertEqual(last(BOOK + [set_to(0, 2), most("watch idle")]), [-8])

    def test_no_actions(self):
        for text in WITHOUT_ACTIONS:
            self.refused(most(text), -8)
        self.assertEqual(last([most("")]), [-8])

    def test_changed_on_the_way_but_not_in_all(self):
        self.told(most("7(down) pay 7(up)"), 1)
        self.told(most("8(down) pay 8(up)"), 0)
        self.refused(most("7(down) pay 10(up)"), -8)
        self.refused(most("9(down) watch 9(up)"), -8)
        self.told(most("7(down) watch 7(up)"), 0)

    def test_limits_that_it_leads_away_from(self):
        calls = [reg(5, "x"),
                 act(0, "rise", [0, LEAST, 5, 0, CHANGE, 1]),
                 act(0, "sink", [0, GREATEST, 5, 0, CHANGE, -1])]
        for text in ("rise", "sink"):
            self.assertEqual(last(calls + [most(text)]), [-8])
        self.assertEqual(last(calls + [set_to(0, 4), most("rise")]), [0, 0])
        self.assertEqual(last(calls + [set_to(0, 6), most("sink")]), [0, 0])

    def test_the_register_that_comes_to_its_limit_first(self):
        calls = [reg(100, "x"), reg(0, "y"), act(0, "a", [0, LEAST, 0, 0, CHANGE, -7, 1, GREATEST, 50, 1, CHANGE, 5])]
        self.assertEqual(last(calls + [most("a")]), [0, 11])
        self.assertEqual(last(calls + [set_to(0, 20), most("a")]), [0, 3])
        self.assertEqual(last(calls + [set_to(1, 51), most("a")]), [0, 0])

    def test_without_registers(self):
        self.assertEqual(last([act(0, "a"), most("a")]), [-8])

    def test_very_often(self):
        calls = [reg(MOST, "x"), act(0, "dec", [0, LEAST, 1, 0, CHANGE, -1]), act(0, "idle")]
        self.assertEqual(last(calls + [most("dec")]), [0, MOST])
        self.assertEqual(last(calls + [most("1000(dec)")]), [0, MOST // 1000])
        self.assertEqual(last(calls + [most(f"7(dec) {nested(38, 'idle')}")]), [0, MOST // 7])
        self.assertEqual(last(calls + [most(f"{MOST}(dec)")]), [0, 1])
        self.assertEqual(last(calls + [most(nested(40, "dec"))]), [0, 0])
        self.assertEqual(last(calls + [most(nested(40, "idle"))]), [-8])

    def test_very_often_from_big(self):
        calls = [reg(0, "x"), act(0, "up", [0, CHANGE, MOST]), act(0, "dec", [0, LEAST, -MOST, 0, CHANGE, -1])]
        self.assertEqual(last(calls + [run(f"{MOST}(up)"), most("dec")]), [0, MOST ** 2 + MOST + 1])

    def test_refusals(self):
        self.refused_for_its_text(most)

    def test_nothing_is_done(self):
        for text in ("pay", "never", "free"):
            self.changes_nothing(BOOK, most(text))
            self.changes_nothing(BOOK + [propose(0, "pay")], most(text))


class TestEver(Again):
    def test_no_actions(self):
        for text in WITHOUT_ACTIONS:
            self.told(ever(text), 0)
        self.assertEqual(last([ever("")]), [0, 0])

    def test_comes_to_an_end(self):
        for text in ("pay", "gain", "2(pay) gain", "pay up", nested(40, "pay")):
            self.told(ever(text), 0)

    def test_not_even_once(self):
        for text in ("never", "rest never", "watch", "4(pay)", "up down watch", "2(stay up)"):
            self.told(ever(text), 0)

    def test_changes_a_register_in_all(self):
        for text in ("free", "up", "down", "2(free) rest", "up up down", "3(gain) 5(pay)", nested(40, "down")):
            self.told(ever(text), 1)

    def test_changes_the_last_register_alone(self):
        self.told(ever("up down free rest"), 1)

    def test_some_needn_t_be_done(self):
        for text in ("idle", "rest idle", "up idle down", "idle 0(free)", "9(rest 9(rest 9(idle)))"):
            self.told(ever(text), 2)
        self.assertEqual(last(BOOK + [set_to(0, 1), ever("watch")]), [0, 2])

    def test_all_must_be_done(self):
        for text in ("rest", "up down", "down up rest", "stay", "5(3(up) 3(down))", nested(40, "rest")):
            self.told(ever(text), 3)

    def test_what_is_done_nought_times_is_not_among_its_actions(self):
        for text in ("rest 0(idle)", "3(rest 0(5(idle)))", "0(0(idle) idle) rest", "rest 0(free) 0(never)"):
            self.told(ever(text), 3)

    def test_an_action_that_the_run_has_not_does_not_count(self):
        self.assertEqual(last([act(0, "a"), act(1, "b"), act(0, "c"), ever("b")]), [0, 3])
        self.assertEqual(last([act(0, "a"), act(1, "b"), act(0, "c"), ever("b c")]), [0, 2])
        self.assertEqual(last([act(0, "a"), act(1, "b"), act(0, "c"), ever("a b")]), [0, 2])

    def test_from_the_registers_as_they_are(self):
        found = ask(BOOK + [ever("stay"), set_to(0, 11), ever("stay"), run("down"), ever("stay")])
        self.assertEqual([found[-5], found[-3], found[-1]], [[0, 3], [0, 0], [0, 3]])

    def test_changed_on_the_way_but_not_in_all(self):
        self.told(ever("9(down) 9(up)"), 3)
        self.told(ever("9(down) watch 9(up)"), 2)
        self.told(ever("8(down) watch 8(up)"), 2)
        self.told(ever("7(down) watch 7(up)"), 0)

    def test_refusals(self):
        self.refused_for_its_text(ever)

    def test_nothing_is_done(self):
        for text in ("pay", "never", "free", "rest", "idle"):
            self.changes_nothing(BOOK, ever(text))
            self.changes_nothing(BOOK + [propose(0, "pay")], ever(text))


if __name__ == "__main__":
    unittest.main()
