"""The operations on the instance of a request.

Each takes the instance and its parameters, and gives back the numbers that
it answers. Errors are checked in the order in which the document lists them,
and before anything is changed.
"""

from openlanes.moves import WAIT, all_open, available_from, is_at_end, legal_from, state_after
from openlanes.safety import safe_moves_from
from openlanes.state import Channel, Instance

CREATE = 0

LEAST_PLACES = 2
MOST_PLACES = 4
MOST_CHANNELS = 3
LEAST_MAX_AGE = 1
MOST_MAX_AGE = 3

# The error codes are held without their sign, which refused() gives them.
NOT_THERE = 2
NO_INSTANCE = 11
NOT_AT_END = 12
OUT_OF_RANGE = 22
TOO_MANY_CHANNELS = 28
WOULD_FREEZE = 35


def refused(code):
    """The answer of an operation that returns an error."""
    return [-code]


def is_place(instance, place):
    """Whether there is such a place."""
    return place < instance.place_count


def is_channel(instance, channel):
    """Whether there is such a channel."""
    return channel < len(instance.channels)


def is_max_age(max_age):
    """Whether a channel may have this maximum age."""
    return LEAST_MAX_AGE <= max_age <= MOST_MAX_AGE


def current_state(instance):
    """The state that the icebreaker and the channels are in."""
    return (instance.place, tuple(instance.ages))


def counted(numbers):
    """The numbers, and how many they are before them."""
    return [len(numbers)] + numbers


def create(request, parameters):
    """Operation 0, which alone is there without an instance."""
    place_count = parameters[0]
    if not LEAST_PLACES <= place_count <= MOST_PLACES:
        return refused(OUT_OF_RANGE)
    request.instance = Instance(place_count)
    return [0]


def add_channel(instance, parameters):
    """Operation 1."""
    end_a, end_b, max_age = parameters
    if not is_place(instance, end_a) or not is_place(instance, end_b):
        return refused(NOT_THERE)
    if end_a == end_b or not is_max_age(max_age):
        return refused(OUT_OF_RANGE)
    if len(instance.channels) == MOST_CHANNELS:
        return refused(TOO_MANY_CHANNELS)
    instance.channels.append(Channel(end_a, end_b, max_age))
    instance.ages.append(0)
    return [len(instance.channels) - 1]


def remove_channel(instance, parameters):
    """Operation 2."""
    number = parameters[0]
    if not is_channel(instance, number):
        return refused(NOT_THERE)
    instance.channels.pop(number)
    instance.ages.pop(number)
    return [len(instance.channels)]


def set_max_age(instance, parameters):
    """Operation 3."""
    number, max_age = parameters
    if not is_channel(instance, number):
        return refused(NOT_THERE)
    if not is_max_age(max_age):
        return refused(OUT_OF_RANGE)
    channel = instance.channels[number]
    old_max_age = channel.max_age
    channel.max_age = max_age
    instance.ages[number] = min(instance.ages[number], max_age)
    return [old_max_age]


def set_position(instance, parameters):
    """Operation 4."""
    place = parameters[0]
    if not is_place(instance, place):
        return refused(NOT_THERE)
    old_place = instance.place
    instance.place = place
    return [old_place]


def set_age(instance, parameters):
    """Operation 5."""
    number, age = parameters
    if not is_channel(instance, number):
        return refused(NOT_THERE)
    if age > instance.channels[number].max_age:
        return refused(OUT_OF_RANGE)
    old_age = instance.ages[number]
    instance.ages[number] = age
    return [old_age]


def reset(instance, parameters):
    """Operation 6."""
    old_hours_elapsed = instance.hours_elapsed
    instance.ages = [0] * len(instance.ages)
    instance.hours_elapsed = 0
    return [old_hours_elapsed]


def travel(instance, parameters):
    """Operation 7."""
    number = parameters[0]
    if not is_channel(instance, number):
        return refused(NOT_THERE)
    if not is_at_end(instance.channels[number], instance.place):
        return refused(NOT_AT_END)
    return make_move(instance, number + 1)


def wait(instance, parameters):
    """Operation 8."""
    return make_move(instance, WAIT)


def make_move(instance, move):
    """Makes an available move, unless a channel would freeze shut."""
    later = state_after(instance.channels, current_state(instance), move)
    if not all_open(instance.channels, later):
        return refused(WOULD_FREEZE)
    place, ages = later
    instance.place = place
    instance.ages = list(ages)
    instance.hours_elapsed += 1
    return [place] + list(ages)


def available_moves(instance, parameters):
    """Operation 9."""
    return counted(available_from(instance.channels, instance.place))


def legal_moves(instance, parameters):
    """Operation 10."""
    return counted(legal_from(instance.channels, current_state(instance)))


def safe_moves(instance, parameters):
    """Operation 11."""
    return counted(safe_moves_from(instance.place_count, instance.channels, current_state(instance)))


OPERATIONS = {
    1: add_channel,
    2: remove_channel,
    3: set_max_age,
    4: set_position,
    5: set_age,
    6: reset,
    7: travel,
    8: wait,
    9: available_moves,
    10: legal_moves,
    11: safe_moves,
}


def perform(request, number, parameters):
    """Executes the operation of that number, and gives back what it answers."""
    if number == CREATE:
        return create(request, parameters)
    if request.instance is None:
        return refused(NO_INSTANCE)
    return OPERATIONS[number](request.instance, parameters)
