"""[10], [11], [12]: webs, their ties, and when they are equal."""

import unittest
from random import Random

from cellwebs.errors import InvalidWeb
from cellwebs.webs import Web
from misfits import no_ties, repr_of, values
from steps import samples


def told_ties(ties):
    """The list that [12] asks for, read off its words."""
    found = []
    for a, b, move in ties:
        back = (b, a, tuple(-number for number in move))
        first = next((number for number in move if number), 0)
        tie = (a, b, move) if a < b or (a == b and first > 0) else back
        if tie not in found:
            found.append(tie)
    return sorted(found)


class Properties(unittest.TestCase):
    def test_no_ties(self):
        for directions in (1, 2, 3):
            for places in (1, 2, 40):
                web = Web(directions, places, [])
                self.assertEqual((web.directions, web.places, web.ties), (directions, places, []))

    def test_by_name(self):
        web = Web(ties=[(0, 1, (4, 5))], places=2, directions=2)
        self.assertEqual((web.directions, web.places, web.ties), (2, 2, [(0, 1, (4, 5))]))

    def test_one_direction(self):
        web = Web(1, 3, [(2, 0, (5,)), (1, 1, (-3,)), (0, 2, (-5,)), (0, 2, (1,)), (1, 1, (3,)), (0, 1, (0,))])
        self.assertEqual(web.ties, [(0, 1, (0,)), (0, 2, (-5,)), (0, 2, (1,)), (1, 1, (3,))])

    def test_two_directions(self):
        web = Web(2, 2, [(1, 0, (0, 0)), (0, 0, (0, -1)), (0, 0, (-1, 7)), (1, 1, (2, -9)), (0, 1, (-1, 4))])
        self.assertEqual(
            web.ties, [(0, 0, (0, 1)), (0, 0, (1, -7)), (0, 1, (-1, 4)), (0, 1, (0, 0)), (1, 1, (2, -9))])

    def test_three_directions(self):
        web = Web(3, 1, [(0, 0, (0, 0, -4)), (0, 0, (0, -1, 1)), (0, 0, (0, 1, -1)), (0, 0, (-2, 0, 3))])
        self.assertEqual(web.ties, [(0, 0, (0, 0, 4)), (0, 0, (0, 1, -1)), (0, 0, (2, 0, -3))])

    def test_the_lower_place_stands_ahead_whatever_the_move(self):
        self.assertEqual(Web(2, 2, [(1, 0, (1, -2))]).ties, [(0, 1, (-1, 2))])
        self.assertEqual(Web(2, 2, [(0, 1, (-1, 2))]).ties, [(0, 1, (-1, 2))])

    def test_ties_are_one_however_often_told(self):
        web = Web(2, 2, [(0, 1, (1, 2)), (1, 0, (-1, -2)), (0, 1, (1, 2)), (0, 0, (0, 3)), (0, 0, (0, -3))])
        self.assertEqual(web.ties, [(0, 0, (0, 3)), (0, 1, (1, 2))])

    def test_places_are_compared_as_numbers(self):
        web = Web(1, 12, [(10, 11, (0,)), (2, 11, (0,)), (11, 2, (-10,)), (2, 10, (9,))])
        self.assertEqual(web.ties, [(2, 10, (9,)), (2, 11, (0,)), (2, 11, (10,)), (10, 11, (0,))])

    def test_numbers_beyond_the_machine_word(self):
        many = 10 ** 40
        web = Web(2, 2, [(1, 0, (many, -many)), (0, 0, (0, -many - 1))])
        self.assertEqual(web.ties, [(0, 0, (0, many + 1)), (0, 1, (-many, many))])

    def test_by_chance(self):
        for directions, places, ties in samples(12, 120, most_ties=9, size=1):
            with self.subTest(ties=ties):
                web = Web(directions, places, ties)
                self.assertEqual((web.directions, web.places, web.ties), (directions, places, told_ties(ties)))

    def test_greatest_web(self):
        chance = Random(3)
        ties = [(k % 40, (k * 7 + 1) % 40, tuple(chance.randint(-10 ** 12, 10 ** 12) for _ in "xyz"))
                for k in range(120)]
        web = Web(3, 40, ties)
        self.assertEqual((web.places, len(web.ties), web.ties), (40, 120, told_ties(ties)))

    def test_kinds(self):
        web = Web(2, 2, [(1, 0, (1, 2))])
        self.assertIs(type(web.directions), int)
        self.assertIs(type(web.places), int)
        self.assertIs(type(web.ties), list)
        self.assertIs(type(web.ties[0]), tuple)
        self.assertIs(type(web.ties[0][2]), tuple)


class Lists(unittest.TestCase):
    def test_the_given_list_may_change(self):
        ties = [(1, 0, (1,)), (0, 0, (2,))]
        web = Web(1, 2, ties)
        ties.append((1, 1, (1,)))
        ties[0] = (0, 1, (8,))
        self.assertEqual(web.ties, [(0, 0, (2,)), (0, 1, (-1,))])
        self.assertEqual(web.neighbours((1, (0,))), [(0, (1,))])
        ties.clear()
        self.assertEqual(web, Web(1, 2, [(1, 0, (1,)), (0, 0, (2,))]))

    def test_the_given_list_is_not_changed(self):
        ties = [(1, 0, (1,)), (1, 0, (1,)), (0, 0, (-2,))]
        Web(1, 2, ties)
        self.assertEqual(ties, [(1, 0, (1,)), (1, 0, (1,)), (0, 0, (-2,))])

    def test_ties_are_a_new_list_each_time(self):
        web = Web(1, 2, [(0, 1, (1,)), (0, 0, (2,))])
        first = web.ties
        self.assertIsNot(first, web.ties)
        first.reverse()
        first.append("more")
        self.assertEqual(web.ties, [(0, 0, (2,)), (0, 1, (1,))])
        self.assertEqual(web, Web(1, 2, [(0, 1, (1,)), (0, 0, (2,))]))
        self.assertEqual(web.neighbours((1, (0,))), [(0, (-1,))])


class Equality(unittest.TestCase):
    def test_equal(self):
        one = Web(2, 2, [(0, 1, (1, 2)), (0, 0, (0, 3))])
        for ties in (
            [(0, 0, (0, 3)), (0, 1, (1, 2))],
            [(0, 0, (0, -3)), (1, 0, (-1, -2)), (0, 1, (1, 2)), (0, 0, (0, 3))],
        ):
            self.assertIs(one == Web(2, 2, ties), True)
            self.assertIs(one != Web(2, 2, ties), False)
        self.assertIs(one == one, True)

    def test_unequal(self):
        one = Web(2, 2, [(0, 1, (1, 2)), (0, 0, (0, 3))])
        for other in (
            Web(2, 3, [(0, 1, (1, 2)), (0, 0, (0, 3))]),
            Web(2, 2, [(0, 1, (1, 2))]),
            Web(2, 2, [(0, 1, (1, 2)), (0, 0, (0, 3)), (1, 1, (0, 3))]),
            Web(2, 2, [(0, 1, (1, 2)), (1, 1, (0, 3))]),
            Web(2, 2, [(0, 1, (-1, -2)), (0, 0, (0, 3))]),
            Web(2, 2, []),
        ):
            self.assertIs(one == other, False)
            self.assertIs(one != other, True)
            self.assertIs(other == one, False)
        self.assertIs(Web(1, 1, []) == Web(2, 1, []), False)
        self.assertIs(Web(3, 1, []) == Web(3, 2, []), False)

    def test_values_that_are_no_webs(self):
        web = Web(1, 1, [])
        for value in values() + [(1, 1, []), [1, 1, []], {"directions": 1, "places": 1, "ties": []}]:
            if not isinstance(value, Web):
                self.assertIs(web == value, False)
                self.assertIs(value == web, False)
                self.assertIs(web != value, True)

    def test_same_web_told_with_other_names_is_another_one(self):
        self.assertIs(Web(1, 2, [(0, 0, (1,))]) == Web(1, 2, [(1, 1, (1,))]), False)


class Refused(unittest.TestCase):
    def refuse(self, directions, places, ties):
        before = repr_of((directions, places, ties))
        with self.assertRaises(InvalidWeb) as caught:
            Web(directions, places, ties)
        self.assertIs(type(caught.exception), InvalidWeb)
        told = caught.exception.value
        self.assertIs(type(told), tuple)
        self.assertEqual(len(told), 3)
        for held, given in zip(told, (directions, places, ties)):
            self.assertIs(held, given)
        self.assertEqual(repr_of(told), before)

    def test_directions(self):
        for value in values() + [4, 10 ** 40, "1", [1], (1,)]:
            if type(value) is not int or not 1 <= value <= 3:
                self.refuse(value, 1, [])
                self.refuse(value, 2, [(0, 1, (0,))])

    def test_places(self):
        for value in values() + ["1", [1], (1,)]:
            if type(value) is not int or value < 1:
                for directions in (1, 2, 3):
                    self.refuse(directions, value, [])
                self.refuse(1, value, [(0, 0, (1,))])

    def test_ties_that_are_no_list(self):
        for value in values() + [((0, 0, (1,)),), (0, 0, (1,)), {0: (0, 0, (1,))}, {}]:
            if value != []:
                self.refuse(1, 2, value)

    def test_ties_in_the_list(self):
        for tie in no_ties():
            with self.subTest(tie=tie):
                self.refuse(2, 2, [tie])
                self.refuse(2, 2, [(0, 1, (0, 0)), (1, 1, (1, 0)), tie])
                self.refuse(2, 2, [tie, (0, 1, (0, 0))])

    def test_one_and_three_directions(self):
        for move in ((), (1, 1), (0, 0), [1], (True,), ("1",), 1, None, ((1,),)):
            self.refuse(1, 2, [(0, 1, move)])
        for move in ((), (1,), (1, 1), (1, 1, 1, 1), [1, 1, 1], (1, 1, True), (1, None, 1), ("1", 1, 1), 111):
            self.refuse(3, 2, [(0, 1, move)])

    def test_a_place_to_itself_with_noughts(self):
        self.refuse(1, 1, [(0, 0, (0,))])
        self.refuse(2, 3, [(2, 2, (0, 0))])
        self.refuse(3, 2, [(0, 1, (0, 0, 0)), (1, 1, (0, 0, 0))])
        self.assertEqual(Web(3, 2, [(0, 1, (0, 0, 0))]).ties, [(0, 1, (0, 0, 0))])

    def test_places_out_of_bounds(self):
        self.refuse(1, 1, [(0, 1, (0,))])
        self.refuse(1, 1, [(1, 0, (0,))])
        self.refuse(1, 3, [(-1, 0, (0,))])
        self.refuse(1, 3, [(0, -1, (0,))])
        self.refuse(1, 10 ** 40, [(0, 10 ** 40, (0,))])

    def test_several_that_do_not_fit(self):
        for first in (None, 0, "2", True):
            for second in (None, 0, [2], False):
                for third in (None, (), [None], [(0, 0, (0,))]):
                    self.refuse(first, second, third)

    def test_by_name(self):
        with self.assertRaises(InvalidWeb) as caught:
            Web(ties=3, places=2, directions=1)
        self.assertEqual(caught.exception.value, (1, 2, 3))


if __name__ == "__main__":
    unittest.main()
