"""Which changes would leave the icebreaker in a safe state: they are tried on copies."""

from openlanes.safety import safe_states
from openlanes.state import LEAST_MAX_AGE, change_max_age, copy_of, current_state, fresh_ages


def is_in_safe_state(instance):
    """Whether the current state is safe."""
    return current_state(instance) in safe_states(instance.place_count, instance.channels)


def would_be_safe(instance, number, max_age):
    """Whether the current state would be safe with that maximum age of a channel."""
    tried = copy_of(instance)
    change_max_age(tried, number, max_age)
    return is_in_safe_state(tried)


def is_tight(instance, number):
    """Whether the maximum age of a channel can't be less, or not safely."""
    max_age = instance.channels[number].max_age
    return max_age == LEAST_MAX_AGE or not would_be_safe(instance, number, max_age - 1)


def would_start_safely(instance, max_age):
    """Whether the place would be safe with all ages 0 and that maximum age of all channels."""
    tried = copy_of(instance)
    tried.ages = fresh_ages(instance)
    for number in range(len(tried.channels)):
        change_max_age(tried, number, max_age)
    return is_in_safe_state(tried)


def start_places(instance):
    """The places that would be safe with all ages 0, in increasing order."""
    safe = safe_states(instance.place_count, instance.channels)
    ages = tuple(fresh_ages(instance))
    return [place for place in range(instance.place_count) if (place, ages) in safe]
