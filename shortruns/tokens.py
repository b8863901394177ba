"""The tokens of texts, and the one text that they come to."""

from shortruns.limits import MOST

BLANK = 32

NAME = "name"
NUMERAL = "numeral"
OPENING = "("
CLOSING = ")"
STAR = "*"
WRONG = "wrong"

SIGNS = {40: "(", 41: ")", 42: "*"}


# place is that of the token's first byte, counted from 1.
class Token:
    def __init__(self, sign, place, letters):
        self.sign = sign
        self.place = place
        self.letters = letters


def is_small_letter(byte):
    return 97 <= byte <= 122


def is_digit(byte):
    return 48 <= byte <= 57


def end_of_name(text, start):
    end = start
    while end < len(text) and is_small_letter(text[end]):
        end += 1
    return end


def end_of_numeral(text, start):
    end = start
    while end < len(text) and is_digit(text[end]):
        end += 1
    return end


def worth(digits):
    number = 0
    for digit in digits:
        number = number * 10 + digit - 48
    return number


# The length is looked at first so that no long row of digits is reckoned out.
def is_numeral(digits):
    if digits[0] == 48:
        return len(digits) == 1
    return len(digits) <= len(str(MOST)) and worth(digits) <= MOST


def token_at(text, start):
    byte = text[start]
    if is_small_letter(byte):
        return Token(NAME, start + 1, text[start:end_of_name(text, start)])
    if is_digit(byte):
        digits = text[start:end_of_numeral(text, start)]
        return Token(NUMERAL if is_numeral(digits) else WRONG, start + 1, digits)
    return Token(SIGNS.get(byte, WRONG), start + 1, [byte])


def tokens_of(text):
    found = []
    start = 0
    while start < len(text):
        if text[start] == BLANK:
            start += 1
        else:
            token = token_at(text, start)
            found.append(token)
            start += len(token.letters)
    return found


# For the tokens of a run alone. A part begins with a name, a numeral or a star, and only ahead of a part that isn't
# its row's first stands a blank.
def one_text(tokens):
    letters = []
    before = OPENING
    for token in tokens:
        if before != OPENING and token.sign in (NAME, NUMERAL, STAR):
            letters.append(BLANK)
        letters.extend(token.letters)
        before = token.sign
    return letters
