"""Which states are safe, and which moves keep a state safe."""

from openlanes.moves import legal_from, state_after


def safe_moves_from(place_count, channels, state):
    """The safe moves of a state, in increasing order."""
    safe = safe_states(place_count, channels)
    return moves_into(channels, state, safe)


def safe_states(place_count, channels):
    """The greatest set of open states that need never be left, as a dict of True.

    States are finitely many, so one that has a plan of every length has a
    plan that never ends: what is left when no more state falls out is
    just the states that have plans of every length.
    """
    safe = open_states(place_count, channels)
    while True:
        kept = states_that_can_stay(channels, safe)
        if len(kept) == len(safe):
            return kept
        safe = kept


def states_that_can_stay(channels, states):
    """Those of the states from which a legal move leads to one of them."""
    kept = {}
    for state in states:
        if moves_into(channels, state, states):
            kept[state] = True
    return kept


def moves_into(channels, state, states):
    """The legal moves of a state that lead to one of the states."""
    moves = legal_from(channels, state)
    return [move for move in moves if state_after(channels, state, move) in states]


def open_states(place_count, channels):
    """All states in which every channel is open, as a dict of True."""
    states = {}
    for ages in open_ages(channels):
        for place in range(place_count):
            states[(place, ages)] = True
    return states


def open_ages(channels):
    """All tuples of ages at which every channel is open."""
    found = [()]
    for channel in channels:
        longer = []
        for ages in found:
            for age in range(channel.max_age + 1):
                longer.append(ages + (age,))
        found = longer
    return found
