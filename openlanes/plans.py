"""First plans and safe plans."""

from openlanes.moves import state_after
from openlanes.safety import moves_into, open_states, safe_states, states_that_can_stay


def first_plan_from(place_count, channels, state, hours):
    """The lexicographically smallest plan for the hours, or None if there is no plan."""
    lasting = open_states(place_count, channels)
    goals = []
    for hour in range(hours):
        goals.append(lasting)
        lasting = states_that_can_stay(channels, lasting)
    if state not in lasting:
        return None
    # The states of goals[n] are those that have a plan for n hours, and the
    # fewer hours are left behind a move, the less its state has to last.
    return smallest_moves(channels, state, list(reversed(goals)))


def safe_plan_from(place_count, channels, state, hours):
    """The smallest safe move of each hour, or None if the state is not safe."""
    safe = safe_states(place_count, channels)
    if state not in safe:
        return None
    return smallest_moves(channels, state, [safe] * hours)


def smallest_moves(channels, state, goals):
    """One behind another, the smallest legal move into each of the sets of states."""
    plan = []
    for goal in goals:
        move = moves_into(channels, state, goal)[0]
        plan.append(move)
        state = state_after(channels, state, move)
    return plan
