"""Which texts are runs, and what is wrong with the others."""

from shortruns.limits import DEEPEST
from shortruns.limits import LONGEST_TEXT
from shortruns.limits import MOST_STARS
from shortruns.parts import repeat_part
from shortruns.parts import star_part
from shortruns.tokens import CLOSING
from shortruns.tokens import NAME
from shortruns.tokens import NUMERAL
from shortruns.tokens import OPENING
from shortruns.tokens import STAR
from shortruns.tokens import tokens_of
from shortruns.tokens import worth


# place is 0 if the text is a run. known has the part of each action by its name (a tuple), width is how many registers
# there are. row is the one that parts go into now; around it stand, outermost first, the rows that are not closed yet,
# each with the token that began the repeat or star within it. head is such a token whose ( is still to come.
class Reading:
    def __init__(self, known, width):
        self.known = known
        self.width = width
        self.place = 0
        self.row = []
        self.around = []
        self.head = None
        self.stars = 0
        self.deepest = 0

    # Each of these says whether the token can stand where it stands.
    def takes(self, token):
        if self.head is not None:
            return self.takes_opening(token)
        if token.sign == NAME:
            return self.takes_name(token)
        if token.sign == NUMERAL:
            self.head = token
            return True
        if token.sign == STAR:
            return self.takes_star(token)
        return token.sign == CLOSING and self.takes_closing()

    def takes_name(self, token):
        part = self.known.get(tuple(token.letters))
        if part is None:
            return False
        self.row.append(part)
        return True

    def takes_star(self, token):
        if len(self.around) > 0 or self.stars == MOST_STARS:
            return False
        self.head = token
        self.stars += 1
        return True

    def takes_opening(self, token):
        if token.sign != OPENING or len(self.around) == DEEPEST:
            return False
        self.around.append((self.row, self.head))
        self.row = []
        self.head = None
        self.deepest = max(self.deepest, len(self.around))
        return True

    def takes_closing(self):
        if len(self.around) == 0:
            return False
        entry = self.around.pop()
        outer = entry[0]
        head = entry[1]
        if head.sign == STAR:
            outer.append(star_part(self.row, self.width))
        else:
            outer.append(repeat_part(worth(head.letters), self.row, self.width))
        self.row = outer
        return True

    def is_unfinished(self):
        return self.head is not None or len(self.around) > 0


def read_text(text, known, width):
    reading = Reading(known, width)
    if len(text) > LONGEST_TEXT:
        reading.place = LONGEST_TEXT + 1
        return reading
    for token in tokens_of(text):
        if not reading.takes(token):
            reading.place = token.place
            return reading
    if reading.is_unfinished():
        reading.place = len(text) + 1
    return reading
