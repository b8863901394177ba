"""The interface: how calls and answers stand in their lists, and what is left as it was."""

import contextlib
import io
import unittest

from shortruns.duel import answers
from tests.helper import CHANGE, GREATEST, LEAST, MOST
from tests.helper import accept, act, actions, ask, at, can, compare, counts, cut, ever, first, form, most, nested
from tests.helper import propose, reach, read, reg, registers, run, set_to, state, sum_of, withdraw

CALLS = [
    reg(10, "x"),
    act(1, "pay", [0, LEAST, 3, 0, CHANGE, -3]),
    act(0, "gain", [0, GREATEST, 20, 0, CHANGE, 5]),
    reg(1, "y"),
    set_to(1, 4),
    read("2(pay) *(gain)"),
    read("2(pay"),
    form(" 2 ( pay ) "),
    sum_of("2(pay gain)"),
    counts("2(pay gain)"),
    can("2(pay)"),
    run("2(pay)"),
    reach("9(pay)"),
    at(1, "9(pay)"),
    run("no"),
    first(0, 1, 12, "*(gain)"),
    most("pay"),
    ever("gain"),
    compare("pay", "gain"),
    propose(0, "gain *(pay)"),
    set_to(0, 1),
    state(),
    cut(1, 2),
    propose(1, "gain"),
    accept(0),
    propose(1, "gain"),
    withdraw(1),
    registers(),
    actions(),
    state(),
    accept(2),
]
FLAT = [number for call in CALLS for number in call]


class TestInterface(unittest.TestCase):
    def test_written_out(self):
        calls = [0, 7, 1, 120]
        calls += [1, 0, 1, 97, 3, 0, 2, -2]
        calls += [2, 0, 5]
        calls += [10, 1, 4, 51, 40, 97, 41]
        calls += [3, 0]
        calls += [4, 2, 32, 97]
        calls += [8, 1, 98]
        self.assertEqual(answers(calls), [2, 0, 0, 2, 0, 0, 1, 0, 2, 0, 3, 4, 1, 0, 0, 0, 2, 0, 97, 1, -2])

    def test_all_calls(self):
        self.assertEqual(ask(CALLS), [
            [0, 0], [0, 0], [0, 1], [0, 1], [0],
            [1, 2, 1, 1], [0, 6], [0] + list(b"2(pay)"),
            [0, 4, 1, 3, 1, 21, 4, -3, 4, 0, 0, 0, 0, 0, 0, 0],
            [0, 2, 2], [0, 1], [0, 2, 4, 4], [0, 1, 0, 1, 4], [0, 1, 4], [-2],
            [0, 2, 14, 4], [0, 1], [0, 0], [0, 0, 0, 0], [0, 4], [-6], [0, 1, 0, 4], [0, 6, 4],
            [0, 1], [0, 1, 11, 4], [0, 1], [0], [0, 11, 4],
            [0, 1, 1, 3, 0, 0, -3, 0, 0, 0, 0, 0, 0, 0, 0, 1, 20, 5, 0, 0, 0, 0, 0], [0, 0, 0, 0], [-1],
        ])

    def test_calls_of_a_session_written_out(self):
        calls = [0, 7, 1, 120]
        calls += [1, 1, 1, 97, 3, 0, 2, -2]
        calls += [11, 0, 0, 4, 4, 51, 40, 97, 41]
        calls += [12, 1, 97]
        calls += [13, 1, 97]
        calls += [14, 1, 97, 0]
        calls += [15, 1, 4, 51, 40, 97, 41]
        calls += [21]
        calls += [18, 0]
        calls += [17, 0, 2]
        calls += [15, 0, 0]
        calls += [16, 1]
        calls += [19]
        calls += [20]
        wanted = [2, 0, 0, 2, 0, 0, 3, 0, 2, 3, 1, -8, 2, 0, 1, 4, 0, 0, 1, 1, 2, 0, 3, 4, 0, 1, 1, 3, 1, -6, 2, 0, 3]
        wanted += [2, 0, 0, 3, 0, 0, 3, 2, 0, 3, 7, 0, 1, 0, 0, 0, 0, -2]
        self.assertEqual(answers(calls), wanted)

    def test_what_is_handed_in_is_not_changed(self):
        handed = list(FLAT)
        answers(handed)
        self.assertEqual(handed, FLAT)

    def test_a_second_time_gives_the_same(self):
        first = answers(list(FLAT))
        self.assertEqual(answers(list(FLAT)), first)
        self.assertEqual(answers(reach("")), [3, 0, 0, 1])

    def test_the_answer_is_the_callers_own(self):
        told = answers(list(FLAT))
        kept = list(told)
        told.clear()
        self.assertEqual(answers(list(FLAT)), kept)

    def test_whole_numbers_alone(self):
        told = answers(list(FLAT))
        self.assertIs(type(told), list)
        self.assertEqual({type(number) for number in told}, {int})

    def test_nothing_is_printed(self):
        out = io.StringIO()
        with contextlib.redirect_stdout(out), contextlib.redirect_stderr(out):
            answers(list(FLAT))
        self.assertEqual(out.getvalue(), "")

    def test_150_calls(self):
        calls = [reg(0, "x"), act(0, "up", [0, CHANGE, 1])] + [run("2(up)")] * 148
        self.assertEqual(ask(calls)[-1], [0, 2, 296])

    def test_150_calls_of_all_sorts(self):
        calls = CALLS + [
            set_to(0, 10), propose(0, "*(pay)"), reg(1, "z"), accept(1), first(0, 1, 6, "gain"), run("2(gain)")] * 19
        calls += [state()] * (150 - len(calls))
        self.assertEqual(len(calls), 150)
        found = ask(calls)
        self.assertEqual(found[:len(CALLS)], ask(CALLS))
        wanted = [[0], [0, 3], [-6], [0, 3, 1, 4], [0, 1, 6, 4], [0, 2, 11, 4]]
        self.assertEqual(found[len(CALLS):len(CALLS) + 6 * 19], wanted * 19)
        self.assertEqual(found[-1], [0, 0, 0, 0])

    def test_long_texts(self):
        book = [reg(0, letter) for letter in "abcdefgh"]
        book += [act(0, "u", [number for k in range(8) for number in (k, CHANGE, 1, k, LEAST, 0)])]
        texts = ["u " * 2048, f"{MOST}(u)" * 315, "1(" * 40 + "u " * 1980 + ")" * 40]
        found = ask(book + [reach(text) for text in texts])[len(book):]
        for length, answer in zip((2048, 315 * MOST, 1980), found):
            self.assertEqual(answer, [0, length, 1] + [length] * 8)

    def test_long_texts_in_a_session(self):
        book = [reg(0, letter) for letter in "abcdefgh"]
        book += [act(1, "u", [number for k in range(8) for number in (k, CHANGE, 1, k, LEAST, 0)])]
        text = "1(" * 40 + "u " * 1980 + ")" * 40
        calls = [first(7, 1, 1979, text), compare(text, "u " * 2048), propose(0, text), cut(1, 1234)]
        self.assertEqual(ask(book + calls)[len(book):],
                         [[0, 1979] + [1979] * 8, [0, 0, 1, 1], [0, 1980], [0] + [1234] * 8])
        self.assertEqual(ask(book + [most(text), ever(text)])[len(book):], [[-8], [0, 1]])
        text = nested(40, "u")
        self.assertEqual(ask(book + [first(3, 1, 10 ** 18, text)])[-1], [0, 10 ** 18] + [10 ** 18] * 8)


if __name__ == "__main__":
    unittest.main()
