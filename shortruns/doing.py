"""The calls that go along a run from the registers as they are: can, run, reach, at."""

from shortruns.limits import BIG
from shortruns.limits import CANNOT_BE_DONE
from shortruns.limits import FOR_EVER
from shortruns.limits import NO_PLACE
from shortruns.limits import NO_RUN
from shortruns.state import read_in_state
from shortruns.sums import can_be_done
from shortruns.sums import moved
from shortruns.walks import behind
from shortruns.walks import reach
from shortruns.walks import settled


# A text's run with its stars settled. Where it is refused, refusal is below 0 and there is no run.
class Attempt:
    def __init__(self, refusal, run):
        self.refusal = refusal
        self.run = run


def attempt(state, text):
    reading = read_in_state(state, text)
    if reading.place > 0:
        return Attempt(NO_RUN, None)
    run = settled(reading.row, state.held)
    if run is None:
        return Attempt(FOR_EVER, None)
    return Attempt(0, run)


def may_be_held(values):
    return all([-BIG <= value <= BIG for value in values])


def call_can(state, numbers, rows):
    tried = attempt(state, rows[0])
    if tried.refusal < 0:
        return [tried.refusal]
    return [0, 1 if can_be_done(tried.run.whole, state.held) else 0]


def call_run(state, numbers, rows):
    tried = attempt(state, rows[0])
    if tried.refusal < 0:
        return [tried.refusal]
    whole = tried.run.whole
    if not can_be_done(whole, state.held):
        return [CANNOT_BE_DONE]
    then = moved(state.held, whole, 1)
    if not may_be_held(then):
        return [NO_PLACE]
    state.held = then
    return [0, whole.length] + then


def call_reach(state, numbers, rows):
    tried = attempt(state, rows[0])
    if tried.refusal < 0:
        return [tried.refusal]
    reached = reach(tried.run, state.held)
    return [0, reached.done, 1 if reached.done == tried.run.whole.length else 0] + reached.held


# That k is below 0 is nearer to 0 than that the run goes on for ever, but not than that the text is no run.
def call_at(state, numbers, rows):
    steps = numbers[0]
    tried = attempt(state, rows[0])
    if steps < 0 and tried.refusal != NO_RUN:
        return [CANNOT_BE_DONE]
    if tried.refusal < 0:
        return [tried.refusal]
    if steps > reach(tried.run, state.held).done:
        return [CANNOT_BE_DONE]
    return [0] + behind(tried.run, steps, state.held)
