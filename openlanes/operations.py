"""The operations on the instance of a request.

Each takes the instance and its parameters, and gives back the numbers that
it answers. Errors are checked in the order in which the document lists them,
and before anything is changed.
"""

from openlanes.moves import WAIT, all_open, available_from, is_at_end, legal_from, state_after
from openlanes.plans import first_plan_from, safe_plan_from
from openlanes.safety import safe_moves_from
from openlanes.state import LEAST_MAX_AGE, MOST_MAX_AGE, Channel, Instance, change_max_age, current_state, fresh_ages
from openlanes.trials import is_in_safe_state, is_tight, start_places, would_be_safe, would_start_safely

CREATE = 0

LEAST_PLACES = 2
MOST_PLACES = 4
MOST_CHANNELS = 3
MOST_HOURS_OF_FIRST_PLAN = 9
MOST_HOURS_OF_SAFE_PLAN = 30
LEAST_HOURS_TO_FOLLOW = 1

# Trips are counted over a span that every max_age + 1 divides.
HOURS_OF_TRIPS = 12

# The error codes are held without their sign, which refused() gives them.
NOT_THERE = 2
NO_INSTANCE = 11
NOT_AT_END = 12
OUT_OF_RANGE = 22
TOO_MANY_CHANNELS = 28
NO_PLAN = 33
WOULD_FREEZE = 35


def refused(code):
    """The answer of an operation that returns an error."""
    return [-code]


def is_place(instance, place):
    """Whether there is such a place."""
    return place < instance.place_count


def is_channel(instance, channel):
    """Whether there is such a channel."""
    return channel < len(instance.channels)


def is_max_age(max_age):
    """Whether a channel may have this maximum age."""
    return LEAST_MAX_AGE <= max_age <= MOST_MAX_AGE


def counted(numbers):
    """The numbers, and how many they are before them."""
    return [len(numbers)] + numbers


def one_if(holds):
    """What a question is answered with: 1 if it holds, otherwise 0."""
    return 1 if holds else 0


def create(request, parameters):
    """Operation 0, which alone is there without an instance."""
    place_count = parameters[0]
    if not LEAST_PLACES <= place_count <= MOST_PLACES:
        return refused(OUT_OF_RANGE)
    request.instance = Instance(place_count)
    return [0]


def add_channel(instance, parameters):
    """Operation 1."""
    end_a, end_b, max_age = parameters
    if not is_place(instance, end_a) or not is_place(instance, end_b):
        return refused(NOT_THERE)
    if end_a == end_b or not is_max_age(max_age):
        return refused(OUT_OF_RANGE)
    if len(instance.channels) == MOST_CHANNELS:
        return refused(TOO_MANY_CHANNELS)
    instance.channels.append(Channel(end_a, end_b, max_age))
    instance.ages.append(0)
    return [len(instance.channels) - 1]


def remove_channel(instance, parameters):
    """Operation 2."""
    number = parameters[0]
    if not is_channel(instance, number):
        return refused(NOT_THERE)
    instance.channels.pop(number)
    instance.ages.pop(number)
    return [len(instance.channels)]


def set_max_age(instance, parameters):
    """Operation 3."""
    number, max_age = parameters
    if not is_channel(instance, number):
        return refused(NOT_THERE)
    if not is_max_age(max_age):
        return refused(OUT_OF_RANGE)
    old_max_age = instance.channels[number].max_age
    change_max_age(instance, number, max_age)
    return [old_max_age]


def set_position(instance, parameters):
    """Operation 4."""
    place = parameters[0]
    if not is_place(instance, place):
        return refused(NOT_THERE)
    old_place = instance.place
    instance.place = place
    return [old_place]


def set_age(instance, parameters):
    """Operation 5."""
    number, age = parameters
    if not is_channel(instance, number):
        return refused(NOT_THERE)
    if age > instance.channels[number].max_age:
        return refused(OUT_OF_RANGE)
    old_age = instance.ages[number]
    instance.ages[number] = age
    return [old_age]


def reset(instance, parameters):
    """Operation 6."""
    old_hours_elapsed = instance.hours_elapsed
    instance.ages = fresh_ages(instance)
    instance.hours_elapsed = 0
    return [old_hours_elapsed]


def travel(instance, parameters):
    """Operation 7."""
    number = parameters[0]
    if not is_channel(instance, number):
        return refused(NOT_THERE)
    if not is_at_end(instance.channels[number], instance.place):
        return refused(NOT_AT_END)
    return make_move(instance, number + 1)


def wait(instance, parameters):
    """Operation 8."""
    return make_move(instance, WAIT)


def make_move(instance, move):
    """Makes an available move, unless a channel would freeze shut."""
    later = state_after(instance.channels, current_state(instance), move)
    if not all_open(instance.channels, later):
        return refused(WOULD_FREEZE)
    place, ages = later
    instance.place = place
    instance.ages = list(ages)
    instance.hours_elapsed += 1
    return [place] + list(ages)


def available_moves(instance, parameters):
    """Operation 9."""
    return counted(available_from(instance.channels, instance.place))


def legal_moves(instance, parameters):
    """Operation 10."""
    return counted(legal_from(instance.channels, current_state(instance)))


def safe_moves(instance, parameters):
    """Operation 11."""
    return counted(safe_moves_from(instance.place_count, instance.channels, current_state(instance)))


def is_safe(instance, parameters):
    """Operation 12."""
    return [one_if(is_in_safe_state(instance))]


def first_plan(instance, parameters):
    """Operation 13."""
    hours = parameters[0]
    if hours > MOST_HOURS_OF_FIRST_PLAN:
        return refused(OUT_OF_RANGE)
    return counted_plan(first_plan_from(instance.place_count, instance.channels, current_state(instance), hours))


def safe_plan(instance, parameters):
    """Operation 14."""
    hours = parameters[0]
    if hours > MOST_HOURS_OF_SAFE_PLAN:
        return refused(OUT_OF_RANGE)
    return counted_plan(safe_plan_from(instance.place_count, instance.channels, current_state(instance), hours))


def counted_plan(plan):
    """The moves of a plan behind their number, or the refusal where there is no plan."""
    if plan is None:
        return refused(NO_PLAN)
    return counted(plan)


def follow_safe_plan(instance, parameters):
    """Operation 15."""
    hours = parameters[0]
    if not LEAST_HOURS_TO_FOLLOW <= hours <= MOST_HOURS_OF_SAFE_PLAN:
        return refused(OUT_OF_RANGE)
    plan = safe_plan_from(instance.place_count, instance.channels, current_state(instance), hours)
    if plan is None:
        return refused(NO_PLAN)
    answered = []
    for move in plan:
        answered = make_move(instance, move)
    return answered


def safe_start_places(instance, parameters):
    """Operation 16."""
    return counted(start_places(instance))


def tight_channels(instance, parameters):
    """Operation 17."""
    if not is_in_safe_state(instance):
        return refused(NO_PLAN)
    return counted([number for number in range(len(instance.channels)) if is_tight(instance, number)])


def is_safe_with_max_age(instance, parameters):
    """Operation 18."""
    number, max_age = parameters
    if not is_channel(instance, number):
        return refused(NOT_THERE)
    if not is_max_age(max_age):
        return refused(OUT_OF_RANGE)
    return [one_if(would_be_safe(instance, number, max_age))]


def min_common_max_age(instance, parameters):
    """Operation 19."""
    for max_age in range(LEAST_MAX_AGE, MOST_MAX_AGE + 1):
        if would_start_safely(instance, max_age):
            return [max_age]
    return refused(NO_PLAN)


def required_trips(instance, parameters):
    """Operation 20."""
    trips = sum([HOURS_OF_TRIPS // (channel.max_age + 1) for channel in instance.channels])
    return [trips, HOURS_OF_TRIPS]


def list_channels(instance, parameters):
    """Operation 21."""
    listed = [len(instance.channels)]
    for channel, age in zip(instance.channels, instance.ages):
        listed.extend([channel.end_a, channel.end_b, channel.max_age, age])
    return listed


def summary(instance, parameters):
    """Operation 22."""
    return [instance.place_count, len(instance.channels), instance.place, instance.hours_elapsed]


OPERATIONS = {
    1: add_channel,
    2: remove_channel,
    3: set_max_age,
    4: set_position,
    5: set_age,
    6: reset,
    7: travel,
    8: wait,
    9: available_moves,
    10: legal_moves,
    11: safe_moves,
    12: is_safe,
    13: first_plan,
    14: safe_plan,
    15: follow_safe_plan,
    16: safe_start_places,
    17: tight_channels,
    18: is_safe_with_max_age,
    19: min_common_max_age,
    20: required_trips,
    21: list_channels,
    22: summary,
}


def perform(request, number, parameters):
    """Executes the operation of that number, and gives back what it answers."""
    if number == CREATE:
        return create(request, parameters)
    if request.instance is None:
        return refused(NO_INSTANCE)
    return OPERATIONS[number](request.instance, parameters)
