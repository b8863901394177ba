"""The calls that make offers and answer them: propose, accept, cut, withdraw."""

from shortruns.doing import attempt
from shortruns.doing import may_be_held
from shortruns.doing import refusal_to_do
from shortruns.limits import CANNOT_BE_DONE
from shortruns.limits import NO_PLACE
from shortruns.limits import NOT_OF_ITS_FORM
from shortruns.limits import NOT_THE_TIME
from shortruns.state import Offer
from shortruns.sums import moved
from shortruns.walks import behind


def is_side(number):
    return 0 <= number <= 1


# Why the offer isn't there for this side to answer; 0 if it is.
def refusal_to_answer(state, side):
    if not is_side(side):
        return NOT_OF_ITS_FORM
    if state.offer is None or state.offer.side == side:
        return NOT_THE_TIME
    return 0


def call_propose(state, numbers, rows):
    side = numbers[0]
    if not is_side(side):
        return [NOT_OF_ITS_FORM]
    tried = attempt(state, rows[0])
    refusal = refusal_to_do(state, tried)
    if refusal < 0:
        return [refusal]
    state.offer = Offer(side, tried.run)
    return [0, tried.run.whole.length]


# That the registers can hold what the whole offer comes to was seen to when it was made.
def call_accept(state, numbers, rows):
    refusal = refusal_to_answer(state, numbers[0])
    if refusal < 0:
        return [refusal]
    whole = state.offer.run.whole
    state.held = moved(state.held, whole, 1)
    state.offer = None
    return [0, whole.length] + state.held


# On its way a run may come beyond what registers can hold, though it doesn't at its end.
def call_cut(state, numbers, rows):
    refusal = refusal_to_answer(state, numbers[0])
    if refusal < 0:
        return [refusal]
    steps = numbers[1]
    run = state.offer.run
    if not 0 <= steps <= run.whole.length:
        return [CANNOT_BE_DONE]
    then = behind(run, steps, state.held)
    if not may_be_held(then):
        return [NO_PLACE]
    state.held = then
    state.offer = None
    return [0] + then


def call_withdraw(state, numbers, rows):
    side = numbers[0]
    if not is_side(side):
        return [NOT_OF_ITS_FORM]
    if state.offer is None or state.offer.side != side:
        return [NOT_THE_TIME]
    state.offer = None
    return [0]
