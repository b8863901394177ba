"""The state that calls work on: registers, actions and the offer."""

from shortruns.parts import action_part
from shortruns.sums import Sum
from shortruns.sums import step_span
from shortruns.texts import read_text


# least, greatest and change are dicts by the register's number: registers that came later aren't in them.
class Action:
    def __init__(self, name, must):
        self.name = name
        self.must = must
        self.least = {}
        self.greatest = {}
        self.change = {}


# The run is kept with its stars settled. While there is an offer no register changes and none is made, so the run can
# still be done, and has a span for each register, when the other side answers it.
class Offer:
    def __init__(self, side, run):
        self.side = side
        self.run = run


# held has the registers' values. It is never changed in place, so a walk may begin with it as it is. offer is None
# where there is none.
class State:
    def __init__(self):
        self.names = []
        self.held = []
        self.actions = []
        self.offer = None


def is_register(state, number):
    return 0 <= number < len(state.held)


def sum_of_action(action, width):
    spans = [step_span(action.least.get(k), action.greatest.get(k), action.change.get(k, 0)) for k in range(width)]
    return Sum(1, spans)


def read_in_state(state, text):
    width = len(state.held)
    known = {}
    for number, action in enumerate(state.actions):
        known[action.name] = action_part(number, sum_of_action(action, width))
    return read_text(text, known, width)
