"""Operations 7 to 10: travelling, waiting, available and legal moves."""

import unittest

from helper import ask, ask_last


class Travel(unittest.TestCase):
    def test_there_and_back(self):
        self.assertEqual(
            ask(("create", 3), ("add_channel", 2, 0, 1), ("travel", 0), ("travel", 0), ("travel", 0)),
            [[0], [0], [2, 0], [0, 0], [2, 0]],
        )

    def test_the_others_get_1_older(self):
        self.assertEqual(
            ask(
                ("create", 3), ("add_channel", 0, 1, 3), ("add_channel", 1, 2, 3), ("add_channel", 0, 2, 3),
                ("travel", 0), ("travel", 1), ("travel", 2), ("travel", 2),
            )[4:],
            [[1, 0, 1, 1], [2, 1, 0, 2], [0, 2, 1, 0], [2, 3, 2, 0]],
        )

    def test_a_parallel_channel_gets_older_too(self):
        self.assertEqual(
            ask_last(("create", 2), ("add_channel", 0, 1, 2), ("add_channel", 1, 0, 2), ("travel", 0)),
            [1, 0, 1],
        )

    def test_an_hour_passes(self):
        self.assertEqual(
            ask_last(("create", 2), ("add_channel", 0, 1, 2), ("travel", 0), ("travel", 0), ("reset",)), [2],
        )

    def test_a_channel_at_its_max_age_can_be_travelled(self):
        for max_age in (1, 2, 3):
            self.assertEqual(
                ask_last(("create", 2), ("add_channel", 0, 1, max_age), ("set_age", 0, max_age), ("travel", 0)),
                [1, 0],
            )

    def test_a_channel_may_reach_its_max_age(self):
        for max_age in (1, 2, 3):
            self.assertEqual(
                ask(
                    ("create", 2), ("add_channel", 0, 1, 1), ("add_channel", 0, 1, max_age),
                    ("set_age", 1, max_age - 1), ("travel", 0), ("travel", 0),
                )[4:],
                [[1, 0, max_age], [-35]],
            )

    def test_only_from_an_end(self):
        self.assertEqual(
            ask(
                ("create", 4), ("add_channel", 1, 2, 3), ("travel", 0), ("set_position", 3), ("travel", 0),
                ("set_position", 2), ("travel", 0),
            ),
            [[0], [0], [-12], [0], [-12], [3], [1, 0]],
        )


class Wait(unittest.TestCase):
    def test_without_channels(self):
        self.assertEqual(
            ask(("create", 4), ("set_position", 3), ("wait",), ("wait",), ("reset",)),
            [[0], [0], [3], [3], [2]],
        )

    def test_every_channel_gets_1_older(self):
        self.assertEqual(
            ask(
                ("create", 4), ("add_channel", 0, 1, 3), ("add_channel", 1, 2, 3), ("add_channel", 2, 3, 3),
                ("set_age", 1, 2), ("set_position", 2), ("wait",),
            )[6:],
            [[2, 1, 3, 1]],
        )

    def test_up_to_the_max_age_and_no_longer(self):
        for max_age in (1, 2, 3):
            calls = [("create", 2), ("add_channel", 0, 1, max_age)] + [("wait",)] * (max_age + 2)
            waited = [[0, age] for age in range(1, max_age + 1)]
            self.assertEqual(ask(*calls)[2:], waited + [[-35], [-35]])

    def test_a_refused_hour_does_not_pass(self):
        self.assertEqual(
            ask(("create", 2), ("add_channel", 0, 1, 1), ("wait",), ("wait",), ("set_age", 0, 1), ("reset",))[2:],
            [[0, 1], [-35], [1], [1]],
        )

    def test_the_oldest_of_several_channels_decides(self):
        for oldest in (0, 1, 2):
            self.assertEqual(
                ask_last(
                    ("create", 2), ("add_channel", 0, 1, 3), ("add_channel", 0, 1, 3), ("add_channel", 0, 1, 3),
                    ("set_age", oldest, 3), ("wait",),
                ),
                [-35],
            )


class AvailableMoves(unittest.TestCase):
    def test_without_channels(self):
        self.assertEqual(ask_last(("create", 2), ("available_moves",)), [1, 0])

    def test_in_increasing_order_at_every_place(self):
        answered = ask(
            ("create", 4), ("add_channel", 3, 0, 3), ("add_channel", 0, 1, 3), ("add_channel", 1, 3, 3),
            ("available_moves",), ("set_position", 1), ("available_moves",),
            ("set_position", 2), ("available_moves",), ("set_position", 3), ("available_moves",),
        )
        self.assertEqual(answered[4::2], [[3, 0, 1, 2], [3, 0, 2, 3], [1, 0], [3, 0, 1, 3]])

    def test_moves_that_are_not_legal_are_available(self):
        self.assertEqual(
            ask(
                ("create", 2), ("add_channel", 0, 1, 1), ("add_channel", 0, 1, 1), ("set_age", 0, 1),
                ("set_age", 1, 1), ("available_moves",), ("legal_moves",),
            )[5:],
            [[3, 0, 1, 2], [0]],
        )


class LegalMoves(unittest.TestCase):
    def test_without_channels(self):
        self.assertEqual(ask_last(("create", 2), ("legal_moves",)), [1, 0])

    def test_an_age_at_its_max_age_must_be_travelled(self):
        for max_age in (1, 2, 3):
            self.assertEqual(
                ask(
                    ("create", 2), ("add_channel", 0, 1, 3), ("add_channel", 0, 1, max_age),
                    ("set_age", 1, max_age), ("legal_moves",), ("set_age", 1, max_age - 1), ("legal_moves",),
                )[4::2],
                [[1, 2], [3, 0, 1, 2]],
            )

    def test_only_available_moves_are_legal(self):
        self.assertEqual(
            ask(
                ("create", 4), ("add_channel", 2, 3, 1), ("add_channel", 0, 1, 3), ("legal_moves",),
                ("set_age", 0, 1), ("legal_moves",), ("set_position", 2), ("legal_moves",),
            )[3::2],
            [[2, 0, 2], [0], [1, 1]],
        )

    def test_legal_moves_need_not_be_safe(self):
        # Behind any move one of three channels is 2 hours old an hour later.
        self.assertEqual(
            ask(
                ("create", 2), ("add_channel", 0, 1, 1), ("add_channel", 0, 1, 1), ("add_channel", 0, 1, 1),
                ("legal_moves",), ("safe_moves",),
            )[4:],
            [[4, 0, 1, 2, 3], [0]],
        )

    def test_asking_changes_nothing(self):
        calls = [("create", 2), ("add_channel", 0, 1, 3), ("add_channel", 0, 1, 2), ("set_age", 0, 2)]
        asked = [("available_moves",), ("legal_moves",), ("safe_moves",)]
        behind = [("set_position", 1), ("set_age", 0, 0), ("set_age", 1, 0), ("reset",)]
        answered = ask(*(calls + asked + asked + behind))
        self.assertEqual(answered[4:7], answered[7:10])
        self.assertEqual(answered[10:], [[0], [2], [0], [0]])


if __name__ == "__main__":
    unittest.main()
