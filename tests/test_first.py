"""first: promise 11."""

import random
import unittest

from tests.helper import BIG, CHANGE, GREATEST, LEAST, MOST, StateCase
from tests.helper import act, ask, at, first, last, nested, propose, reach, reg, run, set_to, sum_of, text_of

DOWN = 0
UP = 1

# pay and gain are limited, never can't ever be done.
BOOK = [
    reg(10, "x"),
    reg(0, "y"),
    act(0, "up", [0, CHANGE, 1]),
    act(0, "down", [0, CHANGE, -1]),
    act(0, "pay", [0, LEAST, 3, 0, CHANGE, -3, 1, CHANGE, 1]),
    act(0, "gain", [0, GREATEST, 20, 0, CHANGE, 5]),
    act(0, "never", [0, LEAST, 1, 0, GREATEST, 0]),
    act(0, "free", [1, CHANGE, 1]),
    act(0, "idle"),
]


class TestFirst(StateCase):
    def told(self, call, *wanted):
        self.assertEqual(last(BOOK + [call]), [0] + list(wanted), call)

    def refused(self, call, number):
        StateCase.refused(self, BOOK, call, number)

    def test_up(self):
        self.told(first(0, UP, 11, "9(up)"), 1, 11, 0)
        self.told(first(0, UP, 14, "9(up)"), 4, 14, 0)
        self.told(first(0, UP, 19, "9(up)"), 9, 19, 0)
        self.refused(first(0, UP, 20, "9(up)"), -7)
        self.told(first(0, UP, 12, "2(gain)"), 1, 15, 0)
        self.told(first(0, UP, 16, "2(gain)"), 2, 20, 0)

    def test_down(self):
        self.told(first(0, DOWN, 9, "9(down)"), 1, 9, 0)
        self.told(first(0, DOWN, 1, "9(down)"), 9, 1, 0)
        self.refused(first(0, DOWN, 0, "9(down)"), -7)
        self.told(first(0, DOWN, 6, "3(pay)"), 2, 4, 2)

    def test_down_and_up_are_not_the_same(self):
        self.told(first(0, UP, 9, "9(down)"), 0, 10, 0)
        self.told(first(0, DOWN, 11, "9(up)"), 0, 10, 0)
        self.refused(first(0, UP, 11, "9(down)"), -7)
        self.refused(first(0, DOWN, 9, "9(up)"), -7)

    def test_each_register_by_itself(self):
        self.told(first(1, UP, 2, "9(pay)"), 2, 4, 2)
        self.told(first(1, UP, 1, "3(up) 2(free)"), 4, 13, 1)
        self.refused(first(1, UP, 1, "9(up)"), -7)

    def test_holds_before_the_first_action(self):
        for text in ("", "up", "never", "0(up)", "5()", "*(pay)", "never *(free)", nested(40, "down")):
            self.told(first(0, UP, 10, text), 0, 10, 0)
            self.told(first(0, DOWN, 10, text), 0, 10, 0)
            self.told(first(0, UP, -BIG, text), 0, 10, 0)
            self.told(first(0, DOWN, BIG, text), 0, 10, 0)

    def test_no_actions(self):
        for text in ("", "0(up)", "5()", "*(0(up))"):
            self.refused(first(0, UP, 11, text), -7)
            self.refused(first(0, DOWN, 9, text), -7)

    def test_row_that_goes_up_and_down_again(self):
        text = "5(2(up) 3(down))"
        for mark, k in ((11, 1), (12, 2)):
            self.told(first(0, UP, mark, text), k, mark, 0)
        self.refused(first(0, UP, 13, text), -7)
        for mark, k in ((9, 5), (8, 10), (7, 15), (6, 20), (5, 25)):
            self.told(first(0, DOWN, mark, text), k, mark, 0)
        self.refused(first(0, DOWN, 4, text), -7)

    def test_row_that_goes_down_and_up_again(self):
        text = "5(3(down) 2(up))"
        for mark, k in ((9, 1), (8, 2), (7, 3), (6, 8), (5, 13), (4, 18), (3, 23)):
            self.told(first(0, DOWN, mark, text), k, mark, 0)
        self.refused(first(0, DOWN, 2, text), -7)
        self.refused(first(0, UP, 11, text), -7)

    def test_row_that_comes_back_to_where_it_was(self):
        self.told(first(0, DOWN, 8, "7(3(down) 3(up))"), 2, 8, 0)
        self.told(first(0, UP, 12, "7(down 3(up) 2(down))"), 4, 12, 0)
        self.refused(first(0, UP, 13, "7(down 3(up) 2(down))"), -7)

    def test_repeat_within_a_repeat(self):
        text = "3(2(3(up) down) 2(down))"
        for mark, k in ((11, 1), (13, 3), (14, 6), (15, 7), (16, 16), (17, 17), (18, 26), (19, 27)):
            self.told(first(0, UP, mark, text), k, mark, 0)
        self.refused(first(0, UP, 20, text), -7)
        self.refused(first(0, DOWN, 9, text), -7)

    def test_in_a_later_part(self):
        self.told(first(0, UP, 13, "2(up) 5(down) 0(gain) 3(idle) 7(up)"), 16, 13, 0)
        self.told(first(0, UP, 14, "2(up) 5(down) 0(gain) 3(idle) 7(up)"), 17, 14, 0)
        self.refused(first(0, UP, 15, "2(up) 5(down) 0(gain) 3(idle) 7(up)"), -7)

    def test_up_to_what_reach_tells(self):
        self.told(first(1, UP, 3, "9(pay)"), 3, 1, 3)
        self.refused(first(1, UP, 4, "9(pay)"), -7)
        self.told(first(0, DOWN, 1, "9(pay)"), 3, 1, 3)
        self.refused(first(0, DOWN, 0, "9(pay)"), -7)
        self.told(first(1, UP, 1, "free never free"), 1, 10, 1)
        self.refused(first(1, UP, 2, "free never free"), -7)
        self.refused(first(1, UP, 1, "never free"), -7)
        self.refused(first(0, UP, 11, "2(2(pay)) 9(up)"), -7)

    def test_stars(self):
        text = "*(pay) *(gain)"
        for k, x, y in ((1, 7, 1), (2, 4, 2), (3, 1, 3)):
            self.told(first(0, DOWN, x, text), k, x, y)
        for k, x in ((5, 11), (6, 16), (7, 21)):
            self.told(first(0, UP, x, text), k, x, 3)
        self.told(first(0, UP, 12, text), 6, 16, 3)
        self.refused(first(0, UP, 22, text), -7)
        self.refused(first(1, UP, 4, text), -7)
        self.refused(first(1, UP, 4, "*(pay) pay"), -7)
        self.refused(first(1, UP, 1, "never *(free)"), -7)
        self.told(first(1, UP, 2, "*() *(never) *(2(pay)) *(free never) free"), 2, 4, 2)
        self.told(first(1, UP, 3, "*() *(never) *(2(pay)) *(free never) free"), 3, 4, 3)

    def test_for_ever_whatever_the_mark(self):
        for text in ("*(free)", "*(idle)", "pay *(free)", "*(free) never", "*(pay) *(free) *(pay)"):
            for up in (DOWN, UP):
                for mark in (-BIG, -1, 0, 1, 7, 10, 11, BIG):
                    self.refused(first(0, up, mark, text), -8)

    def test_not_of_its_form(self):
        for text in ("up", "no", "*(free)", "", "never"):
            for number in (-1, 2, 8, BIG, -BIG):
                self.refused(first(number, UP, 0, text), -1)
            for up in (-1, 2, BIG, -BIG):
                self.refused(first(0, up, 0, text), -1)
            self.refused(first(2, 2, 0, text), -1)
        self.assertEqual(last([act(0, "a"), first(0, UP, 0, "a")]), [-1])

    def test_no_run(self):
        for text in ("no", "2(", "?", "*(*(up))", " " * 4097, "00(up)", "*(free) no", "*(free", "never no"):
            for mark in (-BIG, 10, BIG):
                self.refused(first(0, UP, mark, text), -2)
                self.refused(first(0, DOWN, mark, text), -2)

    def test_nothing_is_done(self):
        for text in ("3(up)", "3(pay)", "*(pay) *(gain)", "9(pay)"):
            for mark in (1, 10, 11):
                self.changes_nothing(BOOK, first(0, UP, mark, text))
                self.changes_nothing(BOOK + [propose(1, "2(pay)")], first(0, DOWN, mark, text))

    def test_from_the_registers_as_they_are(self):
        found = ask(BOOK + [run("2(pay)"), first(0, UP, 6, "9(up)"), set_to(0, -3), first(0, UP, 6, "9(up)")])
        self.assertEqual([found[-3], found[-1]], [[0, 2, 6, 2], [0, 9, 6, 2]])

    def test_while_there_is_an_offer(self):
        self.assertEqual(last(BOOK + [propose(0, "3(pay)"), first(0, UP, 12, "9(up)")]), [0, 2, 12, 0])

    def test_beyond_big(self):
        calls = [reg(0, "x"), act(0, "up", [0, CHANGE, MOST]), act(0, "jump", [0, CHANGE, MOST] * 1666)]
        self.assertEqual(last(calls + [run(f"{MOST}(up)"), first(0, UP, BIG, "2(up)")]), [0, 0, BIG])
        self.assertEqual(last(calls + [first(0, UP, BIG, nested(40, "jump"))]),
                         [0, 600241, 600241 * 1666 * MOST])


class TestTooLongToBeDone(unittest.TestCase):
    def told(self, call, *wanted):
        self.assertEqual(last(BOOK + [call]), list(wanted), call)

    def test_straight_on(self):
        self.told(first(0, UP, BIG, nested(40, "up")), 0, BIG - 10, BIG, 0)
        self.told(first(0, DOWN, -BIG, nested(40, "down")), 0, BIG + 10, -BIG, 0)
        self.told(first(0, UP, MOST + 10, f"{MOST}(up)"), 0, MOST, MOST + 10, 0)
        self.told(first(0, UP, MOST + 11, f"{MOST}(up)"), -7)

    def test_two_on_and_one_back(self):
        for height in (1, 2, 3, 1000, MOST, MOST + 1, BIG - 10):
            self.told(first(0, UP, 10 + height, nested(40, "up down up")), 0, 3 * height - 2, 10 + height, 0)

    def test_there_and_back(self):
        text = f"{MOST}({MOST}(up) {MOST}(down))"
        self.told(first(0, UP, 10 + MOST, text), 0, MOST, 10 + MOST, 0)
        self.told(first(0, UP, 11 + MOST, text), -7)
        self.told(first(0, DOWN, 9, text), -7)

    def test_lowest_at_the_end_of_each_time(self):
        text = f"{MOST}(5(up) 6(down))"
        for height in (1, 2, 77, MOST - 1, MOST):
            self.told(first(0, DOWN, 10 - height, text), 0, 11 * height, 10 - height, 0)
        self.told(first(0, DOWN, 9 - MOST, text), -7)

    def test_lowest_in_the_midst_of_each_time(self):
        text = f"{MOST}(6(down) 5(up))"
        for height in (1, 5, 6):
            self.told(first(0, DOWN, 10 - height, text), 0, height, 10 - height, 0)
        for height in (7, 8, 77, MOST + 5):
            self.told(first(0, DOWN, 10 - height, text), 0, 11 * (height - 6) + 6, 10 - height, 0)
        self.told(first(0, DOWN, 4 - MOST, text), -7)
        self.told(first(0, UP, 11, text), -7)

    def test_stopped_by_a_limit(self):
        calls = [reg(MOST, "x"), act(0, "dec", [0, LEAST, 1, 0, CHANGE, -1]), act(0, "idle")]
        text = nested(39, "7(idle) dec")
        self.assertEqual(last(calls + [first(0, DOWN, 0, text)]), [0, 8 * MOST, 0])
        self.assertEqual(last(calls + [first(0, DOWN, -1, text)]), [-7])
        self.assertEqual(last(calls + [first(0, DOWN, 1, text)]), [0, 8 * (MOST - 1), 1])

    def test_star_done_very_often(self):
        calls = [reg(MOST, "x"), reg(0, "y"),
                 act(0, "dec", [0, LEAST, 1, 0, CHANGE, -1, 1, CHANGE, MOST]),
                 act(0, "back", [1, LEAST, 7, 1, CHANGE, -7])]
        text = "*(dec) *(back)"
        self.assertEqual(last(calls + [first(1, UP, BIG, text)]), [0, MOST, 0, BIG])
        self.assertEqual(last(calls + [first(0, DOWN, 3, text)]), [0, MOST - 3, 3, BIG - 3 * MOST])
        self.assertEqual(last(calls + [first(1, UP, BIG - 1, "*(dec) *(back) 9(dec)")]), [0, MOST, 0, BIG])
        self.assertEqual(last(calls + [first(1, DOWN, -1, text)]), [-7])


NAMES = ["a", "b", "c", "d"]


def length_of(row):
    return sum(1 if part[0] == "act" else part[1] * length_of(part[2]) for part in row)


def beginning_of(row, steps):
    """A run of the first so many actions of the row."""
    found = []
    for part in row:
        length = length_of([part])
        if length > steps:
            if steps > 0:
                times, rest = divmod(steps, length_of(part[2]))
                found += [("rep", times, part[2])] + beginning_of(part[2], rest)
            break
        found.append(part)
        steps -= length
    return found


def some_long_row(source, depth):
    row = []
    for _ in range(source.randint(1, 4)):
        if depth > 0 and source.random() < 0.7:
            times = source.choice([0, 1, 2, 3, 50, MOST - 1, MOST, source.randint(1, MOST)])
            row.append(("rep", times, some_long_row(source, depth - 1)))
        else:
            row.append(("act", source.randrange(len(NAMES))))
    return row


def some_rules(source):
    rules = []
    for number in (0, 1):
        rules += [number, CHANGE, source.choice([-1, 1]) * source.choice([0, 1, 1, 2, 7, 1000])]
        if source.random() < 0.15:
            rules += [number, LEAST, source.randint(-MOST, -1000)]
        if source.random() < 0.15:
            rules += [number, GREATEST, source.randint(1000, MOST)]
    return rules


class TestLongRuns(unittest.TestCase):
    """No run here is done: behind the actions that first tells the mark is met, and the sum of those before the last
    of these says that it isn't earlier. Where first is refused the sum of all that can be done says so."""

    def test_met_and_not_earlier(self):
        met = 0
        for seed in range(400):
            source = random.Random(seed)
            held = [source.randint(-50, 50), source.randint(-50, 50)]
            book = [reg(held[0], "x"), reg(held[1], "y")] + [act(0, name, some_rules(source)) for name in NAMES]
            row = some_long_row(source, 4)
            for number in (0, 1):
                for up in (DOWN, UP):
                    met += self.is_met(source, book, row, held[number], number, up)
        self.assertGreater(met, 800)

    def farthest(self, book, row, number, up):
        return last(book + [sum_of(text_of(row, NAMES, str))])[7 * number + 7 + up]

    def is_met(self, source, book, row, value, number, up):
        text = text_of(row, NAMES, str)
        reached = last(book + [reach(text)])[1]
        farthest = self.farthest(book, beginning_of(row, reached), number, up)
        mark = value + source.randint(min(0, farthest), max(0, farthest)) + source.choice([0, 0, 0, 2 * up - 1])
        mark = max(-BIG, min(BIG, mark))
        answer = last(book + [first(number, up, mark, text)])
        height = mark - value if up else value - mark
        if answer == [-7]:
            self.assertLess(abs(farthest), height, (text, number, up, mark))
            return 0
        k = answer[1]
        if k <= BIG:
            self.assertEqual(last(book + [at(k, text)]), [0] + answer[2:], (text, number, up, mark))
        there = answer[2 + number]
        self.assertTrue(there >= mark if up else there <= mark, (text, number, up, mark))
        self.assertLessEqual(k, reached)
        if k > 0:
            before = self.farthest(book, beginning_of(row, k - 1), number, up)
            self.assertLess(abs(before), height, (text, number, up, mark))
        return 1


if __name__ == "__main__":
    unittest.main()
