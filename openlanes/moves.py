"""The moves of the icebreaker, and the states that they lead to.

A state is a tuple of a place and a tuple of ages, one for each channel.
"""

WAIT = 0


def available_from(channels, place):
    """The available moves at a place, in increasing order."""
    moves = [WAIT]
    for number, channel in enumerate(channels):
        if is_at_end(channel, place):
            moves.append(number + 1)
    return moves


def is_at_end(channel, place):
    """Whether the place is one of the two ends of the channel."""
    return place == channel.end_a or place == channel.end_b


def other_end(channel, place):
    """Where the channel leads to from one of its ends."""
    return channel.end_b if place == channel.end_a else channel.end_a


def state_after(channels, state, move):
    """The state behind an available move, be the move legal or not."""
    place, ages = state
    later_ages = [age + 1 for age in ages]
    if move == WAIT:
        return (place, tuple(later_ages))
    travelled = move - 1
    later_ages[travelled] = 0
    return (other_end(channels[travelled], place), tuple(later_ages))


def all_open(channels, state):
    """Whether every channel is open in the state."""
    for channel, age in zip(channels, state[1]):
        if age > channel.max_age:
            return False
    return True


def legal_from(channels, state):
    """The legal moves of a state, in increasing order."""
    moves = available_from(channels, state[0])
    return [move for move in moves if all_open(channels, state_after(channels, state, move))]
