"""The calls that make registers and actions and set values: reg, act, set."""

from shortruns.limits import LONGEST_NAME
from shortruns.limits import MOST
from shortruns.limits import MOST_ACTIONS
from shortruns.limits import MOST_REGISTERS
from shortruns.limits import NAME_TAKEN
from shortruns.limits import NO_PLACE
from shortruns.limits import NOT_OF_ITS_FORM
from shortruns.limits import NOT_THE_TIME
from shortruns.state import Action
from shortruns.state import is_register
from shortruns.sums import stricter_greatest
from shortruns.sums import stricter_least
from shortruns.tokens import is_small_letter

LEAST = 0
GREATEST = 1
CHANGE = 2


def is_name(letters):
    return 1 <= len(letters) <= LONGEST_NAME and all([is_small_letter(byte) for byte in letters])


def is_small(number):
    return -MOST <= number <= MOST


def is_row_of_rules(state, row):
    if len(row) % 3 != 0:
        return False
    for k in range(0, len(row), 3):
        if not is_register(state, row[k]) or not LEAST <= row[k + 1] <= CHANGE or not is_small(row[k + 2]):
            return False
    return True


def tell_rule(action, number, kind, value):
    if kind == LEAST:
        action.least[number] = stricter_least(action.least.get(number), value)
    elif kind == GREATEST:
        action.greatest[number] = stricter_greatest(action.greatest.get(number), value)
    else:
        action.change[number] = action.change.get(number, 0) + value


def call_reg(state, numbers, rows):
    name = tuple(rows[0])
    if not is_small(numbers[0]) or not is_name(name):
        return [NOT_OF_ITS_FORM]
    if len(state.held) == MOST_REGISTERS:
        return [NO_PLACE]
    if name in state.names:
        return [NAME_TAKEN]
    if state.offer is not None:
        return [NOT_THE_TIME]
    state.names = state.names + [name]
    state.held = state.held + [numbers[0]]
    return [0, len(state.held) - 1]


def call_act(state, numbers, rows):
    name = tuple(rows[0])
    row = rows[1]
    if not 0 <= numbers[0] <= 1 or not is_name(name) or not is_row_of_rules(state, row):
        return [NOT_OF_ITS_FORM]
    if len(state.actions) == MOST_ACTIONS:
        return [NO_PLACE]
    if name in [action.name for action in state.actions]:
        return [NAME_TAKEN]
    if state.offer is not None:
        return [NOT_THE_TIME]
    made = Action(name, numbers[0])
    for k in range(0, len(row), 3):
        tell_rule(made, row[k], row[k + 1], row[k + 2])
    state.actions.append(made)
    return [0, len(state.actions) - 1]


def call_set(state, numbers, rows):
    number = numbers[0]
    if not is_register(state, number) or not is_small(numbers[1]):
        return [NOT_OF_ITS_FORM]
    if state.offer is not None:
        return [NOT_THE_TIME]
    state.held = state.held[:number] + [numbers[1]] + state.held[number + 1:]
    return [0]
