"""The interface: a request as one list of numbers, and its answers as another."""

from openlanes.operations import perform
from openlanes.state import Request

# How many parameters each operation has, by its number.
PARAMETER_COUNTS = (1, 3, 1, 2, 1, 2, 0, 1, 0, 0, 0, 0, 0, 1, 1, 1, 0, 0, 2, 0, 0, 0, 0)


def answers(calls):
    """Executes the calls of one request, one behind another.

    For each call, in order, the list that is given back has how many numbers
    are answered, and then these.
    """
    request = Request()
    answered = []
    start = 0
    while start < len(calls):
        number = calls[start]
        behind = start + 1 + PARAMETER_COUNTS[number]
        numbers = perform(request, number, calls[start + 1:behind])
        answered.append(len(numbers))
        answered.extend(numbers)
        start = behind
    return answered
