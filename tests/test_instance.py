"""Operations 0 to 6, 21 and 22: the instance, its channels, the position, ages, reset, and what is shown."""

import unittest

from helper import GREATEST, ask, ask_last


class Create(unittest.TestCase):
    def test_two_to_four_places(self):
        for place_count in (2, 3, 4):
            self.assertEqual(ask(("create", place_count)), [[0]])

    def test_no_other_number_of_places(self):
        for place_count in (0, 1, 5, 255, GREATEST):
            self.assertEqual(ask(("create", place_count)), [[-22]])

    def test_the_places_are_those_below_place_count(self):
        for place_count in (2, 3, 4):
            last = place_count - 1
            self.assertEqual(
                ask(("create", place_count), ("set_position", last), ("set_position", place_count)),
                [[0], [0], [-2]],
            )
            self.assertEqual(ask_last(("create", place_count), ("add_channel", 0, last, 1)), [0])
            self.assertEqual(ask_last(("create", place_count), ("add_channel", 0, place_count, 1)), [-2])

    def test_a_new_instance_is_empty(self):
        self.assertEqual(
            ask(("create", 4), ("available_moves",), ("remove_channel", 0), ("reset",), ("set_position", 1)),
            [[0], [1, 0], [-2], [0], [0]],
        )

    def test_create_replaces_the_instance(self):
        answered = ask(
            ("create", 4), ("add_channel", 0, 3, 3), ("travel", 0), ("wait",),
            ("create", 2),
            ("available_moves",), ("remove_channel", 0), ("set_position", 2),
            ("reset",), ("set_position", 1), ("add_channel", 1, 0, 1), ("set_age", 0, 0),
        )
        self.assertEqual(answered[4:], [[0], [1, 0], [-2], [-2], [0], [0], [0], [0]])

    def test_a_failing_create_leaves_the_instance(self):
        answered = ask(
            ("create", 4), ("add_channel", 0, 3, 3), ("travel", 0), ("wait",),
            ("create", 5), ("create", 1),
            ("available_moves",), ("set_position", 0), ("set_age", 0, 2), ("set_max_age", 0, 2), ("reset",),
        )
        self.assertEqual(answered[4:], [[-22], [-22], [2, 0, 1], [3], [1], [3], [2]])


class AddChannel(unittest.TestCase):
    def test_channels_are_numbered_in_the_order_they_came(self):
        self.assertEqual(
            ask(("create", 3), ("add_channel", 0, 1, 1), ("add_channel", 2, 1, 2), ("add_channel", 2, 0, 3)),
            [[0], [0], [1], [2]],
        )

    def test_a_new_channel_has_age_0_and_its_max_age(self):
        for max_age in (1, 2, 3):
            self.assertEqual(
                ask(
                    ("create", 2), ("add_channel", 1, 0, max_age),
                    ("set_age", 0, max_age), ("set_age", 0, max_age + 1), ("set_max_age", 0, 3),
                ),
                [[0], [0], [0], [-22], [max_age]],
            )

    def test_a_channel_added_later_has_age_0(self):
        self.assertEqual(
            ask(
                ("create", 2), ("add_channel", 0, 1, 3), ("wait",), ("wait",), ("add_channel", 0, 1, 3),
                ("wait",), ("reset",),
            ),
            [[0], [0], [0, 1], [0, 2], [1], [0, 3, 1], [3]],
        )

    def test_its_ends_are_those_told_in_either_order(self):
        for ends in ((1, 3), (3, 1)):
            answered = ask(
                ("create", 4), ("add_channel", ends[0], ends[1], 3), ("available_moves",),
                ("set_position", 1), ("available_moves",), ("set_position", 2), ("available_moves",),
                ("set_position", 3), ("available_moves",),
            )
            self.assertEqual(answered[2::2], [[1, 0], [2, 0, 1], [1, 0], [2, 0, 1]])

    def test_two_channels_between_the_same_places(self):
        self.assertEqual(
            ask(
                ("create", 2), ("add_channel", 0, 1, 3), ("add_channel", 0, 1, 3), ("available_moves",),
                ("travel", 1), ("travel", 0), ("travel", 0),
            ),
            [[0], [0], [1], [3, 0, 1, 2], [1, 1, 0], [0, 0, 1], [1, 0, 2]],
        )

    def test_three_channels_are_the_most(self):
        answered = ask(
            ("create", 2), ("add_channel", 0, 1, 3), ("add_channel", 0, 1, 3), ("add_channel", 0, 1, 3),
            ("add_channel", 0, 1, 3), ("remove_channel", 0), ("add_channel", 0, 1, 3), ("add_channel", 0, 1, 3),
        )
        self.assertEqual(answered[1:], [[0], [1], [2], [-28], [2], [2], [-28]])


class RemoveChannel(unittest.TestCase):
    def test_it_returns_how_many_remain(self):
        self.assertEqual(
            ask(
                ("create", 2), ("add_channel", 0, 1, 1), ("add_channel", 0, 1, 2), ("add_channel", 0, 1, 3),
                ("remove_channel", 1), ("remove_channel", 1), ("remove_channel", 1), ("remove_channel", 0),
                ("remove_channel", 0),
            )[4:],
            [[2], [1], [-2], [0], [-2]],
        )

    def test_later_channels_get_the_number_below_with_all_that_is_theirs(self):
        answered = ask(
            ("create", 4), ("add_channel", 0, 1, 1), ("add_channel", 2, 3, 2), ("add_channel", 1, 3, 3),
            ("set_age", 0, 1), ("set_age", 1, 2), ("set_age", 2, 3),
            ("remove_channel", 0),
            ("set_age", 0, 0), ("set_age", 1, 0), ("set_max_age", 0, 3), ("set_max_age", 1, 2),
            ("set_position", 2), ("available_moves",), ("set_position", 1), ("available_moves",), ("travel", 1),
        )
        self.assertEqual(
            answered[7:], [[2], [2], [3], [2], [3], [0], [2, 0, 1], [2], [2, 0, 2], [3, 1, 0]],
        )

    def test_earlier_channels_stay(self):
        answered = ask(
            ("create", 3), ("add_channel", 0, 1, 1), ("add_channel", 1, 2, 2), ("add_channel", 0, 2, 3),
            ("set_age", 0, 1), ("set_age", 1, 2), ("set_age", 2, 3),
            ("remove_channel", 1),
            ("set_age", 0, 0), ("set_age", 1, 0), ("set_age", 2, 0), ("available_moves",), ("travel", 1),
        )
        self.assertEqual(answered[7:], [[2], [1], [3], [-2], [3, 0, 1, 2], [2, 1, 0]])


class SetMaxAge(unittest.TestCase):
    def test_it_returns_the_previous_one(self):
        self.assertEqual(
            ask(
                ("create", 2), ("add_channel", 0, 1, 2), ("set_max_age", 0, 3), ("set_max_age", 0, 1),
                ("set_max_age", 0, 1),
            ),
            [[0], [0], [2], [3], [1]],
        )

    def test_the_channel_is_open_up_to_the_new_one(self):
        self.assertEqual(
            ask(("create", 2), ("add_channel", 0, 1, 1), ("wait",), ("wait",), ("set_max_age", 0, 2), ("wait",)),
            [[0], [0], [0, 1], [-35], [1], [0, 2]],
        )

    def test_an_older_channel_gets_the_new_one_as_its_age(self):
        for age, max_age, new_age in ((3, 1, 1), (3, 2, 2), (2, 1, 1), (3, 3, 3), (2, 2, 2), (1, 1, 1)):
            answered = ask(
                ("create", 2), ("add_channel", 0, 1, 3), ("set_age", 0, age), ("set_max_age", 0, max_age),
                ("set_age", 0, 0),
            )
            self.assertEqual(answered[3:], [[3], [new_age]])

    def test_a_younger_channel_keeps_its_age(self):
        for age, max_age in ((0, 1), (1, 2), (0, 3), (1, 3), (2, 3)):
            answered = ask(
                ("create", 2), ("add_channel", 0, 1, 3), ("set_age", 0, age), ("set_max_age", 0, max_age),
                ("set_age", 0, 0),
            )
            self.assertEqual(answered[4], [age])

    def test_the_age_does_not_come_back(self):
        answered = ask(
            ("create", 2), ("add_channel", 0, 1, 3), ("set_age", 0, 3), ("set_max_age", 0, 1),
            ("set_max_age", 0, 3), ("set_age", 0, 0),
        )
        self.assertEqual(answered[3:], [[3], [1], [1]])

    def test_other_channels_stay(self):
        answered = ask(
            ("create", 2), ("add_channel", 0, 1, 3), ("add_channel", 0, 1, 3), ("set_age", 0, 3), ("set_age", 1, 3),
            ("set_max_age", 1, 1), ("set_age", 0, 0), ("set_max_age", 0, 2), ("set_age", 1, 0),
        )
        self.assertEqual(answered[5:], [[3], [3], [3], [1]])


class SetPosition(unittest.TestCase):
    def test_it_returns_the_place_before(self):
        self.assertEqual(
            ask(("create", 4), ("set_position", 3), ("set_position", 3), ("set_position", 1), ("set_position", 0)),
            [[0], [0], [3], [3], [1]],
        )

    def test_no_time_passes(self):
        answered = ask(
            ("create", 3), ("add_channel", 0, 1, 3), ("set_age", 0, 2), ("set_position", 1), ("set_age", 0, 0),
            ("reset",),
        )
        self.assertEqual(answered[3:], [[0], [2], [0]])


class SetAge(unittest.TestCase):
    def test_it_returns_the_previous_one(self):
        self.assertEqual(
            ask(
                ("create", 2), ("add_channel", 0, 1, 3), ("set_age", 0, 3), ("set_age", 0, 1), ("set_age", 0, 1),
                ("set_age", 0, 0), ("wait",),
            ),
            [[0], [0], [0], [3], [1], [1], [0, 1]],
        )

    def test_of_that_channel_alone(self):
        answered = ask(
            ("create", 2), ("add_channel", 0, 1, 3), ("add_channel", 0, 1, 3), ("set_age", 1, 2), ("wait",),
        )
        self.assertEqual(answered[3:], [[0], [0, 1, 3]])


class Reset(unittest.TestCase):
    def test_ages_and_hours_become_0(self):
        answered = ask(
            ("create", 2), ("add_channel", 0, 1, 3), ("add_channel", 0, 1, 2), ("wait",), ("travel", 1),
            ("reset",), ("reset",), ("set_age", 0, 0), ("set_age", 1, 0),
        )
        self.assertEqual(answered[3:], [[0, 1, 1], [1, 2, 0], [2], [0], [0], [0]])

    def test_hours_are_counted_anew_behind_it(self):
        self.assertEqual(
            ask(("create", 2), ("wait",), ("wait",), ("wait",), ("reset",), ("wait",), ("reset",))[4:],
            [[3], [0], [1]],
        )

    def test_the_position_and_the_max_ages_stay(self):
        answered = ask(
            ("create", 3), ("add_channel", 0, 2, 2), ("travel", 0), ("reset",), ("set_position", 0),
            ("set_max_age", 0, 3),
        )
        self.assertEqual(answered[3:], [[1], [2], [2]])


class ListChannels(unittest.TestCase):
    def test_none(self):
        self.assertEqual(ask_last(("create", 4), ("list_channels",)), [0])

    def test_the_ends_as_they_were_passed(self):
        self.assertEqual(
            ask_last(
                ("create", 4), ("add_channel", 3, 0, 1), ("add_channel", 0, 3, 2), ("add_channel", 2, 1, 3),
                ("list_channels",),
            ),
            [3, 3, 0, 1, 0, 0, 3, 2, 0, 2, 1, 3, 0],
        )

    def test_travelling_does_not_turn_the_ends(self):
        answered = ask(
            ("create", 3), ("add_channel", 2, 0, 3), ("travel", 0), ("list_channels",), ("wait",), ("travel", 0),
            ("wait",), ("wait",), ("list_channels",),
        )
        self.assertEqual([answered[3], answered[8]], [[1, 2, 0, 3, 0], [1, 2, 0, 3, 2]])

    def test_ages_and_max_ages_as_they_are_now(self):
        answered = ask(
            ("create", 3), ("add_channel", 0, 1, 3), ("add_channel", 1, 2, 3), ("add_channel", 0, 2, 2),
            ("set_age", 0, 3), ("set_age", 2, 1), ("list_channels",),
            ("set_max_age", 0, 2), ("list_channels",), ("travel", 0), ("list_channels",),
            ("remove_channel", 1), ("list_channels",), ("reset",), ("list_channels",), ("set_max_age", 1, 1),
            ("remove_channel", 0), ("list_channels",),
        )
        self.assertEqual(answered[6], [3, 0, 1, 3, 3, 1, 2, 3, 0, 0, 2, 2, 1])
        self.assertEqual(answered[8], [3, 0, 1, 2, 2, 1, 2, 3, 0, 0, 2, 2, 1])
        self.assertEqual(answered[10], [3, 0, 1, 2, 0, 1, 2, 3, 1, 0, 2, 2, 2])
        self.assertEqual(answered[12], [2, 0, 1, 2, 0, 0, 2, 2, 2])
        self.assertEqual(answered[14], [2, 0, 1, 2, 0, 0, 2, 2, 0])
        self.assertEqual(answered[17], [1, 0, 2, 1, 0])


class Summary(unittest.TestCase):
    def test_of_a_new_instance(self):
        for place_count in (2, 3, 4):
            self.assertEqual(ask_last(("create", place_count), ("summary",)), [place_count, 0, 0, 0])

    def test_each_number_of_it(self):
        answered = ask(
            ("create", 4), ("add_channel", 1, 3, 3), ("summary",), ("set_position", 3), ("summary",), ("wait",),
            ("summary",), ("travel", 0), ("summary",), ("add_channel", 0, 1, 3), ("summary",),
            ("remove_channel", 0), ("summary",), ("reset",), ("summary",), ("create", 2), ("summary",),
        )
        self.assertEqual(answered[2::2], [
            [4, 1, 0, 0], [4, 1, 3, 0], [4, 1, 3, 1], [4, 1, 1, 2], [4, 2, 1, 2], [4, 1, 1, 2], [4, 1, 1, 0],
            [2, 0, 0, 0],
        ])

    def test_hours_pass_with_moves_alone(self):
        answered = ask(
            ("create", 2), ("add_channel", 0, 1, 2), ("wait",), ("first_plan", 9), ("safe_plan", 30), ("summary",),
            ("follow_safe_plan", 7), ("summary",), ("set_age", 0, 2), ("wait",), ("summary",),
        )
        self.assertEqual(answered[5], [2, 1, 0, 1])
        self.assertEqual(answered[7][3], 8)
        self.assertEqual(answered[9:], [[-35], [2, 1, answered[7][2], 8]])


if __name__ == "__main__":
    unittest.main()
