"""read, form and the texts of runs: promises 3, 4."""

import random
import re
import unittest

from tests.helper import MOST, act, ask, form, last, letters, read, reg, sum_of

BOOK = [act(0, "a"), act(0, "b"), act(0, "ab"), act(0, "abcdefgh")]


def deep(depth, head="1", inside=""):
    return (head + "(") * depth + inside + ")" * depth


def place_by_tokens(text, names):
    """The place of what's wrong, or 0: another way to the same, with what may stand next kept as one text."""
    if len(text) > 4096:
        return 4097
    stack = ""
    stars = 0
    wants_opening = ""
    for match in re.finditer(r"[a-z]+|[0-9]+|[^ ]", text, re.DOTALL):
        token = match.group()
        stars += token == "*"
        if wants_opening:
            fine = token == "(" and len(stack) < 40
            stack += wants_opening
            wants_opening = ""
        elif token[0].isdigit():
            fine = str(int(token)) == token and int(token) <= MOST
            wants_opening = "r"
        elif token == "*":
            fine = stack == "" and stars <= 8
            wants_opening = "s"
        elif token == ")":
            fine = stack != ""
            stack = stack[:-1]
        else:
            fine = token in names
        if not fine:
            return match.start() + 1
    return len(text) + 1 if stack or wants_opening else 0


class TestRead(unittest.TestCase):
    def reads(self, text, *wanted):
        self.assertEqual(last(BOOK + [read(text)]), list(wanted), text)

    def wrong_at(self, text, place):
        self.reads(text, 0, place)
        self.assertEqual(last(BOOK + [form(text)]), [-2], text)

    def test_parts_stars_and_depth(self):
        self.reads("a", 1, 1, 0, 0)
        self.reads("a b ab", 1, 3, 0, 0)
        self.reads("2(a b)", 1, 1, 0, 1)
        self.reads("a 2(b 3(a) 4(b)) *(a)", 1, 3, 1, 2)
        self.reads("*(2(3(a)))", 1, 1, 1, 3)
        self.reads("*(a)*(b)", 1, 2, 2, 1)
        self.reads("0(a) 1(2(b)) a", 1, 3, 0, 2)

    def test_empty_text_and_rows(self):
        self.reads("", 1, 0, 0, 0)
        self.reads("    ", 1, 0, 0, 0)
        self.reads("0()", 1, 1, 0, 1)
        self.reads("*()", 1, 1, 1, 1)
        self.reads("5( 3 ( ) )", 1, 1, 0, 2)

    def test_without_actions(self):
        self.assertEqual(last([read("")]), [1, 0, 0, 0])
        self.assertEqual(last([read("3(*)")]), [0, 3])
        self.assertEqual(last([read("a")]), [0, 1])

    def test_blanks_or_none(self):
        self.reads("a2(b)a", 1, 3, 0, 1)
        self.reads("  a   2  (  b  )   a  ", 1, 3, 0, 1)
        self.reads("*  (a)2 (b)", 1, 2, 1, 1)

    def test_names_are_as_long_as_there_are_letters(self):
        self.reads("ab", 1, 1, 0, 0)
        self.reads("a b", 1, 2, 0, 0)
        self.wrong_at("aa", 1)
        self.wrong_at("a aba", 3)
        self.reads("abcdefgh", 1, 1, 0, 0)
        self.wrong_at("abcdefghi", 1)
        self.wrong_at("a abcdefg", 3)

    def test_a_name_that_is_no_actions(self):
        self.wrong_at("c", 1)
        self.wrong_at("a 2(b c) d", 7)
        self.assertEqual(last([reg(0, "c"), act(0, "a"), read("a c")]), [0, 3])

    def test_numerals(self):
        for numeral in ("0", "1", "9", "10", "999999999", "1000000000"):
            self.reads(numeral + "(a)", 1, 1, 0, 1)
        for numeral in ("00", "01", "000", "0000000000000", "1000000001", "9999999999", "10000000000", "9" * 4000):
            self.wrong_at(" " + numeral + "(a)", 2)
            self.wrong_at("a 2(" + numeral + "(", 5)

    def test_numeral_wants_an_opening(self):
        self.wrong_at("2a", 2)
        self.wrong_at("2 a", 3)
        self.wrong_at("2 3(a)", 3)
        self.wrong_at("2)", 2)
        self.wrong_at("2*(a)", 2)
        self.wrong_at("2 00", 3)
        self.wrong_at("2 c", 3)

    def test_star_wants_an_opening(self):
        self.wrong_at("*a", 2)
        self.wrong_at("**(a)", 2)
        self.wrong_at("* 2(a)", 3)
        self.wrong_at("*)", 2)

    def test_brackets_alone(self):
        self.wrong_at("(a)", 1)
        self.wrong_at("a (", 3)
        self.wrong_at(")", 1)
        self.wrong_at("2(a))", 5)
        self.wrong_at("2((a))", 3)
        self.wrong_at("2(a)(b)", 5)

    def test_texts_that_end_too_early(self):
        self.wrong_at("2", 2)
        self.wrong_at("2  ", 4)
        self.wrong_at("2(", 3)
        self.wrong_at("2(a", 4)
        self.wrong_at("2(a  ", 6)
        self.wrong_at("*", 2)
        self.wrong_at("*(a 2(b)", 9)
        self.wrong_at("a 2(b", 6)

    def test_other_bytes(self):
        fine = " ()*0123456789abcdefghijklmnopqrstuvwxyz"
        for byte in range(256):
            if byte not in fine.encode():
                self.wrong_at([97, 32, byte], 3)
                self.wrong_at([50, byte, 40], 2)

    def test_first_wrong_from_the_left(self):
        self.wrong_at("a c 00(", 3)
        self.wrong_at("a 00( c", 3)
        self.wrong_at("2(a ? (", 5)

    def test_depth(self):
        self.reads(deep(40), 1, 1, 0, 40)
        self.reads(deep(40, "3", "a"), 1, 1, 0, 40)
        self.reads("*(" + deep(39, "3", "a") + ")", 1, 1, 1, 40)
        self.reads(deep(40) + deep(40), 1, 2, 0, 40)
        self.wrong_at(deep(41), 82)
        self.wrong_at("1 ( " + deep(40), 4 + 80)
        self.wrong_at("*(" + deep(40, "3", "a") + ")", 82)
        self.wrong_at("1(" * 40 + "1", 82)
        self.wrong_at("1(" * 40 + "1a", 82)
        self.wrong_at("1(" * 40 + "12 (", 84)

    def test_stars(self):
        self.reads("*(a)" * 8, 1, 8, 8, 1)
        self.wrong_at("*(a)" * 9, 33)
        self.wrong_at("*()" * 8 + " a 2(b) *", 33)
        self.wrong_at("*(a) *(*(a))", 8)
        self.wrong_at("2(*(a))", 3)
        self.wrong_at("2(a 3(b *", 9)
        self.wrong_at("*(2(*", 5)

    def test_4096_bytes_and_one_more(self):
        self.reads(" " * 4096, 1, 0, 0, 0)
        self.reads("a " * 2048, 1, 2048, 0, 0)
        self.reads(" " * 4095 + "b", 1, 1, 0, 0)
        self.wrong_at(" " * 4095 + "2", 4097)
        self.wrong_at(" " * 4095 + "?", 4096)
        self.wrong_at("a " * 2048 + " ", 4097)
        self.wrong_at(" " * 4097, 4097)
        self.wrong_at("?" * 4097, 4097)
        self.wrong_at("a" * 5000, 4097)
        self.wrong_at("c" * 4096, 1)

    def test_never_refused(self):
        for text in ("c", "2(", "?" * 5000, "*(*"):
            self.assertEqual(last([read(text)])[0], 0)

    def test_against_another_way(self):
        source = random.Random(11)
        pieces = ["a", "b", "ab", "c", "(", "(", ")", ")", "*", "2", "2(", "3(", "*(", " ", "  ", "0", "00", "?", "7 ("]
        names = ("a", "b", "ab", "abcdefgh")
        for _ in range(150):
            texts = ["".join(source.choices(pieces, k=source.randint(0, 12))) for _ in range(100)]
            for text, found in zip(texts, ask(BOOK + [read(text) for text in texts])[len(BOOK):]):
                place = place_by_tokens(text, names)
                self.assertEqual(found[0], 0 if place else 1, text)
                if place:
                    self.assertEqual(found, [0, place], text)

    def test_deep_ones_against_another_way(self):
        source = random.Random(12)
        for _ in range(300):
            depth = source.randint(38, 42)
            text = "".join(source.choice(["1(", "2 (", "a 3(", "0() 1("]) for _ in range(depth)) + ")" * depth
            if source.random() < 0.5:
                text = "*(" + text + ")"
            found = last(BOOK + [read(text)])
            place = place_by_tokens(text, ("a",))
            self.assertEqual(found[:2] if found[0] == 0 else [0, 0], [0, place], text)


class TestForm(unittest.TestCase):
    def forms(self, text, wanted):
        found = ask(BOOK + [form(text), form(wanted)])
        self.assertEqual(found[-2:], [[0] + letters(wanted)] * 2, text)

    def test_one_text(self):
        self.forms("a", "a")
        self.forms("  a   b ", "a b")
        self.forms("a2(b)a", "a 2(b) a")
        self.forms(" 2 ( a  b 3 (ab ) ) * ( b )", "2(a b 3(ab)) *(b)")
        self.forms("*(a)*(b)2(a)3(b)", "*(a) *(b) 2(a) 3(b)")
        self.forms("2(3(4(a)5(b))6(a))", "2(3(4(a) 5(b)) 6(a))")
        self.forms("1000000000(0(a))", "1000000000(0(a))")

    def test_empty_text_and_rows(self):
        self.forms("", "")
        self.forms("     ", "")
        self.forms("0 ( )  * (  )", "0() *()")
        self.forms("5( 3 ( ) 4 () )", "5(3() 4())")

    def test_longer_than_a_text_may_be(self):
        text = "0()" * 1365
        self.assertEqual(last([form(text)]), [0] + letters(" ".join(["0()"] * 1365)))

    def test_refusals(self):
        for text in ("c", "2(", "?", "*(*(a))", " " * 4097, "01(a)"):
            self.assertEqual(last(BOOK + [form(text)]), [-2])

    def test_state_as_it_was(self):
        calls = [reg(4, "x"), act(0, "a", [0, 2, 3])]
        found = ask(calls + [sum_of("a"), form("c"), sum_of("a"), form("a"), sum_of("a"), read("(a"), sum_of("a")])
        self.assertEqual(found[2], [0, 1, 0, 0, 0, 0, 3, 0, 3])
        self.assertEqual(found[2:3] * 3, found[4::2])


if __name__ == "__main__":
    unittest.main()
