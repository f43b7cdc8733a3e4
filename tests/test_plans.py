"""Operations 13, 14 and 15: first plans and safe plans."""

import itertools
import unittest

from helper import GREATEST, LAYOUTS, Chart, ask, ask_last, layout, put, some_states_of

PATH = layout(3, (0, 1, 2), (1, 2, 2))


class FirstPlan(unittest.TestCase):
    def test_of_no_hours(self):
        self.assertEqual(ask_last(("create", 2), ("first_plan", 0)), [0])
        for ages in ((0, 0), (1, 1)):
            calls = layout(2, (0, 1, 1), (1, 0, 1)) + put(0, *ages)
            self.assertEqual(ask_last(*(calls + [("first_plan", 0)])), [0])

    def test_without_channels(self):
        for hours in (1, 5, 9):
            self.assertEqual(ask_last(("create", 3), ("first_plan", hours)), [hours] + [0] * hours)

    def test_one_channel(self):
        for max_age, plan in (
            (1, [0, 1, 0, 1, 0, 1, 0, 1, 0]), (2, [0, 0, 1, 0, 0, 1, 0, 0, 1]), (3, [0, 0, 0, 1, 0, 0, 0, 1, 0]),
        ):
            for hours in range(10):
                calls = layout(2, (0, 1, max_age)) + [("first_plan", hours)]
                self.assertEqual(ask_last(*calls), [hours] + plan[:hours])

    def test_an_old_channel_is_travelled_at_once(self):
        for max_age in (1, 2, 3):
            calls = layout(2, (1, 0, max_age)) + put(1, max_age) + [("first_plan", 2)]
            self.assertEqual(ask_last(*calls), [2, 1, 0])

    def test_the_last_hours_are_spent_as_if_nothing_came_behind_them(self):
        # A wait that would be the end of all longer plans is the smallest
        # move of the last hour.
        for hours, plan in (
            (0, []), (1, [0]), (2, [0, 0]), (3, [0, 1, 2]), (4, [0, 1, 2, 0]), (5, [0, 1, 2, 2, 1]),
            (6, [0, 1, 2, 2, 1, 0]), (7, [0, 1, 2, 2, 1, 1, 2]), (8, [0, 1, 2, 2, 1, 1, 2, 0]),
            (9, [0, 1, 2, 2, 1, 1, 2, 2, 1]),
        ):
            self.assertEqual(ask_last(*(PATH + [("first_plan", hours)])), [hours] + plan)

    def test_two_channels_between_the_same_places(self):
        for hours, plan in ((1, [0]), (2, [1, 2]), (3, [1, 2, 1]), (9, [1, 2, 1, 2, 1, 2, 1, 2, 1])):
            calls = layout(2, (0, 1, 1), (1, 0, 1)) + [("first_plan", hours)]
            self.assertEqual(ask_last(*calls), [hours] + plan)

    def test_open_but_not_safe(self):
        side_by_side = layout(2, (0, 1, 1), (0, 1, 1), (0, 1, 1))
        for calls, longest in (
            (side_by_side, 1),
            (side_by_side + put(0, 1, 1, 0), 0),
            (side_by_side + put(0, 1, 0, 0), 1),
            (layout(4, (2, 3, 3)), 3),
            (layout(4, (2, 3, 3)) + put(0, 1), 2),
            (layout(4, (2, 3, 3)) + put(0, 3), 0),
        ):
            answered = ask(*(calls + [("is_safe",)] + [("first_plan", hours) for hours in range(10)]))[-11:]
            self.assertEqual(answered[0], [0])
            for hours in range(10):
                if hours <= longest:
                    self.assertEqual(answered[1 + hours][0], hours, calls)
                    self.assertEqual(len(answered[1 + hours]), 1 + hours, calls)
                else:
                    self.assertEqual(answered[1 + hours], [-33], calls)

    def test_no_more_than_nine_hours(self):
        for hours in (10, 30, 31, GREATEST):
            self.assertEqual(ask_last(*(PATH + [("first_plan", hours)])), [-22])

    def test_no_plan_is_smaller(self):
        for place_count, channels in LAYOUTS:
            chart = Chart(channels)
            for state in some_states_of(place_count, channels):
                calls = layout(place_count, *channels) + put(state[0], *state[1])
                answered = ask(*(calls + [("first_plan", hours) for hours in range(6)]))[-6:]
                for hours in range(6):
                    plans = chart.plans(state, hours)
                    expected = [hours] + min(plans) if plans else [-33]
                    self.assertEqual(answered[hours], expected, (place_count, channels, state))

    def test_no_plan_of_nine_hours_is_smaller(self):
        for place_count, channels in LAYOUTS:
            chart = Chart(channels)
            for place in range(place_count):
                state = (place, (0,) * len(channels))
                plans = chart.plans(state, 9)
                calls = layout(place_count, *channels) + put(place) + [("first_plan", 9)]
                expected = [9] + min(plans) if plans else [-33]
                self.assertEqual(ask_last(*calls), expected, (place_count, channels, place))

    def test_every_smaller_list_of_moves_is_refused_by_the_program_itself(self):
        for hours in (1, 2, 3, 4):
            plan = ask_last(*(PATH + [("first_plan", hours)]))[1:]
            for moves in itertools.product(range(3), repeat=hours):
                made = ask(*(PATH + [made_by(move) for move in moves]))[len(PATH):]
                is_plan = all(answered[0] >= 0 for answered in made)
                if list(moves) < plan:
                    self.assertFalse(is_plan, moves)
                if list(moves) == plan:
                    self.assertTrue(is_plan, moves)


def made_by(move):
    """The call that makes the move."""
    return ("travel", move - 1) if move else ("wait",)


class SafePlan(unittest.TestCase):
    def test_of_no_hours(self):
        self.assertEqual(ask_last(("create", 2), ("safe_plan", 0)), [0])
        self.assertEqual(ask_last(*(PATH + [("safe_plan", 0)])), [0])

    def test_of_no_hours_where_it_is_not_safe(self):
        self.assertEqual(ask_last(*(PATH + put(0, 2, 2) + [("safe_plan", 0)])), [-33])

    def test_without_channels(self):
        self.assertEqual(ask_last(("create", 4), ("safe_plan", 30)), [30] + [0] * 30)

    def test_one_channel(self):
        for max_age in (1, 2, 3):
            plan = ([0] * max_age + [1]) * 15
            for hours in (1, 2, 3, 4, 29, 30):
                calls = layout(3, (2, 0, max_age)) + [("safe_plan", hours)]
                self.assertEqual(ask_last(*calls), [hours] + plan[:hours])

    def test_no_wait_that_ends_badly(self):
        plan = [0, 1] + [2, 2, 1, 1] * 7
        for hours in (1, 2, 3, 4, 5, 6, 8, 29, 30):
            self.assertEqual(ask_last(*(PATH + [("safe_plan", hours)])), [hours] + plan[:hours])

    def test_channels_side_by_side(self):
        for channels, plan in (
            ([(0, 1, 1), (1, 0, 1)], [1, 2] * 15),
            ([(0, 1, 2), (0, 1, 2), (0, 1, 2)], [1, 2, 3] * 10),
            ([(0, 1, 1), (0, 1, 3), (0, 1, 3)], [1, 2, 1, 3] * 8),
        ):
            for hours in (1, 2, 7, 30):
                calls = layout(2, *channels) + [("safe_plan", hours)]
                self.assertEqual(ask_last(*calls), [hours] + plan[:hours])

    def test_no_more_than_thirty_hours(self):
        for hours in (31, 40, GREATEST):
            self.assertEqual(ask_last(*(PATH + [("safe_plan", hours)])), [-22])

    def test_safe_plans_stay_safe(self):
        for place_count, channels in LAYOUTS:
            chart = Chart(channels)
            for state in some_states_of(place_count, channels):
                calls = layout(place_count, *channels) + put(state[0], *state[1])
                answered = ask(*(calls + [("safe_plan", hours) for hours in (0, 7, 30)]))[-3:]
                for hours, numbers in zip((0, 7, 30), answered):
                    with self.subTest(place_count=place_count, channels=channels, state=state, hours=hours):
                        if not chart.is_safe(state):
                            self.assertEqual(numbers, [-33])
                            continue
                        self.assertEqual(numbers, [hours] + chart.safe_plan(state, hours))
                        # That the chart takes each move tells that all channels stay open.
                        self.assertTrue(chart.is_safe(chart.after(state, numbers[1:])))

    def test_each_of_its_moves_can_be_made_and_is_safe(self):
        for calls, hours in (
            (PATH, 15), (PATH + put(2, 1, 0), 13), (layout(3, (0, 1, 3), (1, 2, 3), (2, 0, 3)), 15),
            (layout(3, (0, 1, 3), (1, 2, 3), (0, 1, 3)), 15), (layout(2, (0, 1, 1), (0, 1, 3), (0, 1, 3)), 15),
        ):
            plan = ask_last(*(calls + [("safe_plan", hours)]))[1:]
            self.assertEqual(len(plan), hours)
            made = list(calls)
            for move in plan:
                made += [made_by(move), ("is_safe",)]
            answered = ask(*made)[len(calls):]
            self.assertTrue(all(numbers[0] >= 0 for numbers in answered[::2]), calls)
            self.assertEqual(answered[1::2], [[1]] * hours)


class FollowSafePlan(unittest.TestCase):
    def test_without_channels(self):
        self.assertEqual(
            ask(("create", 4), ("set_position", 3), ("follow_safe_plan", 30), ("summary",))[2:], [[3], [4, 0, 3, 30]],
        )

    def test_where_it_leads_to(self):
        for hours, numbers in (
            (1, [0, 1, 1]), (2, [1, 0, 2]), (3, [2, 1, 0]), (4, [1, 2, 0]), (5, [0, 0, 1]), (6, [1, 0, 2]),
            (30, [1, 0, 2]),
        ):
            answered = ask(*(PATH + [("follow_safe_plan", hours), ("list_channels",), ("summary",), ("is_safe",)]))
            place, ages = numbers[0], numbers[1:]
            self.assertEqual(answered[3:], [
                numbers, [2, 0, 1, 2, ages[0], 1, 2, 2, ages[1]], [3, 2, place, hours], [1],
            ])

    def test_the_hours_are_added(self):
        answered = ask(*(PATH + [
            ("wait",), ("follow_safe_plan", 30), ("follow_safe_plan", 30), ("follow_safe_plan", 1), ("summary",),
            ("reset",), ("summary",), ("follow_safe_plan", 2), ("summary",), ("reset",),
        ]))[4:]
        self.assertEqual(answered[3], [3, 2, answered[2][0], 62])
        self.assertEqual(answered[4], [62])
        self.assertEqual(answered[5], [3, 2, answered[2][0], 0])
        self.assertEqual(answered[7][3], 2)
        self.assertEqual(answered[8], [2])

    def test_it_makes_the_moves_of_the_safe_plan(self):
        for calls in (
            PATH, PATH + put(1, 0, 2), layout(3, (0, 1, 2), (1, 2, 2), (2, 0, 2)), layout(2, (0, 1, 3)),
            layout(3, (0, 1, 3), (1, 2, 3), (0, 1, 3)), layout(2, (1, 0, 1), (0, 1, 3), (0, 1, 3)),
        ):
            plan = ask_last(*(calls + [("safe_plan", 30)]))[1:]
            steps = ask(*(calls + [made_by(move) for move in plan]))[len(calls):]
            for hours in range(1, 31):
                followed = ask_last(*(calls + [("follow_safe_plan", hours)]))
                self.assertEqual(followed, steps[hours - 1], (calls, hours))

    def test_in_parts_as_in_one(self):
        for parts in ((1, 1, 1), (3, 9, 18), (29, 1), (1, 29), (15, 15)):
            answered = ask(*(PATH + [("follow_safe_plan", hours) for hours in parts] + [("summary",)]))
            whole = ask(*(PATH + [("follow_safe_plan", sum(parts)), ("summary",)]))
            self.assertEqual(answered[-2:], whole[-2:])

    def test_of_1_to_30_hours(self):
        for hours in (0, 31, 32, GREATEST):
            answered = ask(*(PATH + [("follow_safe_plan", hours), ("summary",), ("list_channels",)]))
            self.assertEqual(answered[3:], [[-22], [3, 2, 0, 0], [2, 0, 1, 2, 0, 1, 2, 2, 0]])

    def test_not_from_a_state_that_is_not_safe(self):
        answered = ask(*(PATH + put(0, 2, 2) + [("follow_safe_plan", 1), ("summary",), ("list_channels",)]))
        self.assertEqual(answered[6:], [[-33], [3, 2, 0, 0], [2, 0, 1, 2, 2, 1, 2, 2, 2]])

    def test_from_every_state(self):
        for place_count, channels in LAYOUTS:
            chart = Chart(channels)
            for state in some_states_of(place_count, channels):
                calls = layout(place_count, *channels) + put(state[0], *state[1])
                answered = ask(*(calls + [("follow_safe_plan", 11), ("is_safe",), ("summary",)]))[-3:]
                expected = [[-33], [0], [place_count, len(channels), state[0], 0]]
                if chart.is_safe(state):
                    place, ages = chart.after(state, chart.safe_plan(state, 11))
                    expected = [[place] + list(ages), [1], [place_count, len(channels), place, 11]]
                self.assertEqual(answered, expected, (place_count, channels, state))


class PlansAreOnlyAskedFor(unittest.TestCase):
    def test_the_instance_is_not_changed(self):
        shown = [("list_channels",), ("summary",), ("legal_moves",)]
        for calls in (PATH, PATH + put(1, 0, 2), PATH + put(0, 2, 2), layout(2), layout(4, (2, 3, 3)) + [("wait",)]):
            for plan in (("first_plan", 9), ("first_plan", 1), ("safe_plan", 30), ("safe_plan", 1)):
                answered = ask(*(calls + shown + [plan] + shown + [plan]))[len(calls):]
                self.assertEqual(answered[:4], answered[4:], (calls, plan))


if __name__ == "__main__":
    unittest.main()
