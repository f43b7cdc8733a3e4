"""The interface: the form of a request and of its answers, and the document's example."""

import unittest

from helper import NAMES, ask, request_of
from openlanes.patrol import answers


class LockedList(list):
    """A list that bears no change, not even one that is taken back."""

    def refuse(self, *given, **named):
        raise AssertionError("the list that was handed in was changed")

    __setitem__ = __delitem__ = __iadd__ = __imul__ = refuse
    append = clear = extend = insert = pop = remove = reverse = sort = refuse


class FormOfAnswers(unittest.TestCase):
    def test_one_call(self):
        self.assertEqual(answers([0, 2]), [1, 0])

    def test_a_refusal_is_the_code_alone(self):
        self.assertEqual(answers([0, 5]), [1, -22])
        self.assertEqual(answers([8]), [1, -11])
        self.assertEqual(answers([0, 2, 7, 0]), [1, 0, 1, -2])

    def test_the_ages_stand_behind_the_place_without_a_count(self):
        self.assertEqual(answers([0, 2, 8]), [1, 0, 1, 0])
        self.assertEqual(answers([0, 2, 1, 0, 1, 3, 8]), [1, 0, 1, 0, 2, 0, 1])
        self.assertEqual(
            answers([0, 2, 1, 0, 1, 3, 1, 0, 1, 2, 7, 1]),
            [1, 0, 1, 0, 1, 1, 3, 1, 1, 0],
        )

    def test_moves_stand_behind_their_count(self):
        calls = [0, 2, 1, 0, 1, 3]
        for number in (9, 10, 11):
            self.assertEqual(answers(calls + [number]), [1, 0, 1, 0, 3, 2, 0, 1])

    def test_plans_and_places_stand_behind_their_count(self):
        calls = [0, 3, 1, 2, 0, 2]
        self.assertEqual(answers(calls + [13, 4]), [1, 0, 1, 0, 5, 4, 0, 0, 1, 0])
        self.assertEqual(answers(calls + [14, 2]), [1, 0, 1, 0, 3, 2, 0, 0])
        self.assertEqual(answers(calls + [13, 0, 14, 0]), [1, 0, 1, 0, 1, 0, 1, 0])
        self.assertEqual(answers(calls + [16]), [1, 0, 1, 0, 3, 2, 0, 2])
        self.assertEqual(answers(calls + [17, 3, 0, 1, 17]), [1, 0, 1, 0, 1, 0, 1, 2, 2, 1, 0])

    def test_following_answers_the_ages_without_a_count(self):
        self.assertEqual(answers([0, 3, 1, 2, 0, 2, 15, 3]), [1, 0, 1, 0, 2, 2, 0])
        self.assertEqual(answers([0, 3, 15, 30]), [1, 0, 1, 0])

    def test_channels_stand_four_numbers_each_behind_their_count(self):
        self.assertEqual(answers([0, 3, 21]), [1, 0, 1, 0])
        self.assertEqual(
            answers([0, 3, 1, 2, 0, 2, 1, 0, 1, 3, 8, 21, 22]),
            [1, 0, 1, 0, 1, 1, 3, 0, 1, 1, 9, 2, 2, 0, 2, 1, 0, 1, 3, 1, 4, 3, 2, 0, 1],
        )

    def test_one_number_and_two(self):
        self.assertEqual(
            answers([0, 2, 1, 0, 1, 2, 12, 18, 0, 1, 19, 20]), [1, 0, 1, 0, 1, 1, 1, 1, 1, 1, 2, 4, 12],
        )

    def test_every_operation_takes_its_parameters(self):
        calls = [
            0, 4, 1, 2, 3, 1, 1, 3, 0, 2, 1, 0, 2, 3, 2, 1, 3, 0, 3, 4, 3,
            5, 1, 2, 6, 7, 0, 8, 9, 10, 11, 4, 0,
            12, 13, 1, 14, 1, 15, 1, 16, 17, 18, 1, 2, 19, 20, 21, 22,
        ]
        self.assertEqual(answers(calls), [
            1, 0, 1, 0, 1, 1, 1, 2, 1, 2, 1, 1, 1, 0,
            1, 0, 1, 0, 3, 2, 0, 1, 3, 2, 1, 2, 4, 3, 0, 1, 2, 4, 3, 0, 1, 2, 2, 1, 2, 1, 2,
            # At place 0 the ages are (1, 2), both of 3: an hour can be waited.
            # Then both channels are travelled just in time, so channel 0 is tight.
            1, 1, 2, 1, 0, 2, 1, 0, 3, 0, 2, 3, 4, 3, 0, 2, 3, 2, 1, 0, 1, 1, 1, 2, 2, 6, 12,
            9, 2, 2, 3, 3, 2, 0, 2, 3, 3, 4, 4, 2, 0, 3,
        ])

    def test_the_answers_are_plain_whole_numbers_in_a_plain_list(self):
        questions = [12, 13, 3, 14, 3, 15, 3, 16, 17, 18, 0, 2, 18, 0, 3, 19, 20, 21, 22]
        for calls in (
            [0, 2, 1, 0, 1, 3, 7, 0, 8, 9, 10, 11, 5, 0, 9, 6] + questions, [0, 4, 1, 2, 3, 2] + questions,
        ):
            answered = answers(calls)
            self.assertIs(type(answered), list)
            for number in answered:
                self.assertIs(type(number), int)

    def test_a_request_of_forty_calls(self):
        self.assertEqual(answers([0, 2] + [8] * 39), [1, 0] * 40)

    def test_a_request_of_forty_long_answers(self):
        calls = [0, 2, 1, 0, 1, 1] + [14, 30] * 19 + [15, 30] * 19
        plan = [31, 30] + [0, 1] * 15
        self.assertEqual(answers(calls), [1, 0, 1, 0] + plan * 19 + [2, 1, 0, 2, 0, 0] * 9 + [2, 1, 0])

    def test_a_request_of_160_numbers(self):
        calls = [0, 2] + [1, 0, 1, 1] * 39
        self.assertEqual(len(calls), 158)
        self.assertEqual(answers(calls), [1, 0, 1, 0, 1, 1, 1, 2] + [1, -28] * 36)


class NothingIsKept(unittest.TestCase):
    CALLS = [
        0, 3, 1, 0, 1, 3, 1, 1, 2, 3, 7, 0, 5, 1, 2, 3, 0, 1, 2, 0, 9, 10, 11, 8, 0, 9, 0, 2, 6,
        0, 3, 1, 0, 1, 3, 1, 1, 2, 3, 12, 13, 9, 14, 30, 15, 30, 16, 17, 18, 0, 2, 19, 20, 21, 22,
    ]

    def test_the_request_stays_as_it_was(self):
        calls = list(self.CALLS)
        answers(calls)
        self.assertEqual(calls, self.CALLS)

    def test_the_request_is_not_changed_for_a_while_either(self):
        self.assertEqual(answers(LockedList(self.CALLS)), answers(list(self.CALLS)))

    def test_a_second_request_is_answered_like_the_first(self):
        first = answers(list(self.CALLS))
        answers([0, 4, 1, 0, 3, 2, 7, 0])
        self.assertEqual(answers(list(self.CALLS)), first)

    def test_each_question_is_answered_alike_in_a_second_request(self):
        calls = [0, 3, 1, 0, 1, 3, 1, 1, 2, 2]
        for question in ([12], [13, 9], [14, 30], [15, 30], [16], [17], [18, 0, 2], [18, 1, 1], [19], [20], [21], [22]):
            first = answers(calls + question)
            answers([0, 2, 1, 0, 1, 1, 1, 0, 1, 1, 8] + question)
            self.assertEqual(answers(calls + question), first, question)

    def test_a_second_request_begins_without_an_instance(self):
        answers([0, 4, 1, 0, 3, 2, 7, 0])
        self.assertEqual(answers([6, 0, 2, 9]), [1, -11, 1, 0, 2, 1, 0])

    def test_the_answers_of_an_earlier_request_stay_as_they_were(self):
        first = answers(list(self.CALLS))
        copied = list(first)
        answers([0, 4, 1, 0, 3, 2, 7, 0])
        self.assertEqual(first, copied)


class WithoutAnInstance(unittest.TestCase):
    PARAMETERS = (1, 3, 1, 2, 1, 2, 0, 1, 0, 0, 0, 0, 0, 1, 1, 1, 0, 0, 2, 0, 0, 0, 0)

    def test_every_operation_but_create_is_refused(self):
        for number in range(1, len(NAMES)):
            for given in (0, 1, 4294967295):
                calls = [number] + [given] * self.PARAMETERS[number]
                with self.subTest(operation=NAMES[number], given=given):
                    self.assertEqual(answers(calls), [1, -11])
                    self.assertEqual(answers(calls + [0, 2]), [1, -11, 1, 0])

    def test_a_failing_create_makes_no_instance(self):
        for number in range(1, len(NAMES)):
            calls = [0, 1, number] + [0] * self.PARAMETERS[number]
            with self.subTest(operation=NAMES[number]):
                self.assertEqual(answers(calls), [1, -22, 1, -11])


class ExampleOfTheDocument(unittest.TestCase):
    def test_one_behind_another(self):
        answered = ask(
            ("create", 2),
            ("add_channel", 0, 1, 1),
            ("add_channel", 1, 0, 1),
            ("safe_moves",),
            ("safe_plan", 3),
            ("wait",),
            ("is_safe",),
            ("travel", 0),
        )
        self.assertEqual(answered, [[0], [0], [1], [2, 1, 2], [3, 1, 2, 1], [0, 1, 1], [0], [-35]])

    def test_number_by_number(self):
        calls = [0, 2, 1, 0, 1, 1, 1, 1, 0, 1, 11, 14, 3, 8, 12, 7, 0]
        self.assertEqual(answers(calls), [1, 0, 1, 0, 1, 1, 3, 2, 1, 2, 4, 3, 1, 2, 1, 3, 0, 1, 1, 1, 0, 1, -35])

    def test_it_is_made_of_these_numbers(self):
        calls = request_of([("create", 2), ("add_channel", 1, 0, 1), ("safe_moves",), ("travel", 0)])
        self.assertEqual(calls, [0, 2, 1, 1, 0, 1, 11, 7, 0])


if __name__ == "__main__":
    unittest.main()
