"""The calls that show how things stand: registers, actions, state."""

from shortruns.telling import told_limit


def call_registers(state, numbers, rows):
    return [0] + state.held


def call_actions(state, numbers, rows):
    answer = [0]
    for action in state.actions:
        answer.append(action.must)
        for k in range(len(state.held)):
            answer.extend(told_limit(action.least.get(k)))
            answer.extend(told_limit(action.greatest.get(k)))
            answer.append(action.change.get(k, 0))
    return answer


def call_state(state, numbers, rows):
    if state.offer is None:
        return [0, 0, 0, 0]
    return [0, 1, state.offer.side, state.offer.run.whole.length]
