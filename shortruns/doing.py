"""The calls that go along a run from the registers as they are: can, run, reach, at, first."""

from shortruns.limits import BIG
from shortruns.limits import CANNOT_BE_DONE
from shortruns.limits import FOR_EVER
from shortruns.limits import NO_PLACE
from shortruns.limits import NO_RUN
from shortruns.limits import NOT_OF_ITS_FORM
from shortruns.limits import NOT_THE_TIME
from shortruns.state import is_register
from shortruns.state import read_in_state
from shortruns.sums import can_be_done
from shortruns.sums import moved
from shortruns.walks import behind
from shortruns.walks import reach
from shortruns.walks import settled
from shortruns.walks import steps_to_climb


# A text's run with its stars settled. Where it is refused, refusal is below 0 and there is no run.
class Attempt:
    def __init__(self, refusal, run):
        self.refusal = refusal
        self.run = run


def attempt(state, text):
    reading = read_in_state(state, text)
    if reading.place > 0:
        return Attempt(NO_RUN, None)
    run = settled(reading.row, state.held)
    if run is None:
        return Attempt(FOR_EVER, None)
    return Attempt(0, run)


def may_be_held(values):
    return all([-BIG <= value <= BIG for value in values])


# Why the run can't be done, or offered, now: of all refusals that are due the one nearest to 0, or 0 if there is none.
def refusal_to_do(state, tried):
    if tried.refusal == NO_RUN:
        return NO_RUN
    able = tried.refusal == 0 and can_be_done(tried.run.whole, state.held)
    if able and not may_be_held(moved(state.held, tried.run.whole, 1)):
        return NO_PLACE
    if state.offer is not None:
        return NOT_THE_TIME
    if tried.refusal < 0:
        return tried.refusal
    return 0 if able else CANNOT_BE_DONE


def call_can(state, numbers, rows):
    tried = attempt(state, rows[0])
    if tried.refusal < 0:
        return [tried.refusal]
    return [0, 1 if can_be_done(tried.run.whole, state.held) else 0]


def call_run(state, numbers, rows):
    tried = attempt(state, rows[0])
    refusal = refusal_to_do(state, tried)
    if refusal < 0:
        return [refusal]
    state.held = moved(state.held, tried.run.whole, 1)
    return [0, tried.run.whole.length] + state.held


def call_reach(state, numbers, rows):
    tried = attempt(state, rows[0])
    if tried.refusal < 0:
        return [tried.refusal]
    reached = reach(tried.run, state.held)
    return [0, reached.done, 1 if reached.done == tried.run.whole.length else 0] + reached.held


# That k is below 0 is nearer to 0 than that the run goes on for ever, but not than that the text is no run.
def call_at(state, numbers, rows):
    steps = numbers[0]
    tried = attempt(state, rows[0])
    if steps < 0 and tried.refusal != NO_RUN:
        return [CANNOT_BE_DONE]
    if tried.refusal < 0:
        return [tried.refusal]
    if steps > reach(tried.run, state.held).done:
        return [CANNOT_BE_DONE]
    return [0] + behind(tried.run, steps, state.held)


# That a run goes on for ever is told whatever the mark, though it is farther from 0 than that no mark is met.
def call_first(state, numbers, rows):
    number = numbers[0]
    up = numbers[1]
    if not is_register(state, number) or not 0 <= up <= 1:
        return [NOT_OF_ITS_FORM]
    tried = attempt(state, rows[0])
    if tried.refusal < 0:
        return [tried.refusal]
    gap = numbers[2] - state.held[number]
    steps = steps_to_climb(tried.run, number, up == 1, gap if up == 1 else -gap)
    if steps is None or steps > reach(tried.run, state.held).done:
        return [CANNOT_BE_DONE]
    return [0, steps] + behind(tried.run, steps, state.held)
