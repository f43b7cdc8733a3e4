"""What the tests share: operations by their names, and answers call by call."""

from openlanes.patrol import answers

NAMES = (
    "create", "add_channel", "remove_channel", "set_max_age", "set_position", "set_age",
    "reset", "travel", "wait", "available_moves", "legal_moves", "safe_moves", "is_safe",
    "first_plan", "safe_plan", "follow_safe_plan", "safe_start_places", "tight_channels",
    "is_safe_with_max_age", "min_common_max_age", "required_trips", "list_channels", "summary",
)

GREATEST = 4294967295


def request_of(calls):
    """The list of numbers for calls like ("add_channel", 0, 1, 3)."""
    numbers = []
    for call in calls:
        numbers.append(NAMES.index(call[0]))
        numbers.extend(call[1:])
    return numbers


def split_answers(answered):
    """A list of numbers for each call, out of the list that is given back."""
    split = []
    start = 0
    while start < len(answered):
        behind = start + 1 + answered[start]
        if behind > len(answered):
            raise AssertionError(f"the answers end too early: {answered}")
        split.append(answered[start + 1:behind])
        start = behind
    return split


def ask(*calls):
    """What each of the calls of one request answers."""
    if not 1 <= len(calls) <= 40:
        raise AssertionError(f"a request has 1 to 40 calls, not {len(calls)}")
    split = split_answers(answers(request_of(calls)))
    if len(split) != len(calls):
        raise AssertionError(f"{len(calls)} calls, but {len(split)} answers")
    return split


def ask_last(*calls):
    """What the last of the calls answers."""
    return ask(*calls)[-1]
