"""Copies of states, so that what is kept and what is told are apart."""


def copied_state(state):
    return (list(state[0]), list(state[1]))
