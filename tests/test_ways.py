"""The first shortest way, as circle tells it."""

import unittest

from helper import CYCLE, SLACK, ask_of, circle

ABCD = "box A;box B;box C;box D;"


def circle_in(text, number):
    return ask_of(text, circle(number))[0]


class Circle(unittest.TestCase):
    def test_worked_text(self):
        found = ask_of(CYCLE, *[circle(number) for number in range(6)])
        self.assertEqual(found, [[3, 1, 2, 0], [3, 2, 0, 1], [2, 0, 2], [3, 3, 2, 0], [3, 2, 0, 3], [2, 2, 0]])

    def test_none(self):
        self.assertEqual(circle_in(SLACK, 0), [0])
        self.assertEqual(circle_in(ABCD + "edge A->B;edge B->A;edge B->C;", 2), [0])

    def test_turned_edges_are_gone_as_told(self):
        text = ABCD + "edge A->B;edge B->A;"
        self.assertEqual(ask_of(text, [5]), [[1, 0, 1]])
        self.assertEqual(circle_in(text, 0), [2, 1, 0])
        self.assertEqual(circle_in(text, 1), [2, 0, 1])

    def test_through_wishes(self):
        self.assertEqual(circle_in(ABCD + "edge A->B;above B A;", 0), [2, 1, 0])
        self.assertEqual(circle_in(ABCD + "edge A->B;above B C;edge C->D;above D A;", 0), [4, 1, 2, 3, 0])

    def test_wish_is_not_gone_the_other_way(self):
        self.assertEqual(circle_in(ABCD + "edge A->B;above A B;", 0), [0])

    def test_shorter_one_counts(self):
        text = ABCD + "edge A->B;edge B->C;edge C->D;edge D->A;"
        self.assertEqual(circle_in(text, 0), [4, 1, 2, 3, 0])
        self.assertEqual(circle_in(text + "above B D;", 0), [3, 1, 3, 0])
        self.assertEqual(circle_in(text + "edge B->A;", 0), [2, 1, 0])

    def test_of_the_shortest_the_first_by_its_edges(self):
        start = ABCD + "edge A->B;"
        self.assertEqual(circle_in(start + "edge B->C;edge B->D;edge C->A;edge D->A;", 0), [3, 1, 2, 0])
        self.assertEqual(circle_in(start + "edge B->D;edge B->C;edge C->A;edge D->A;", 0), [3, 1, 3, 0])
        self.assertEqual(circle_in(start + "edge D->A;edge C->A;edge B->C;edge B->D;", 0), [3, 1, 2, 0])

    def test_edges_are_gone_ahead_of_wishes(self):
        start = ABCD + "edge A->B;"
        self.assertEqual(circle_in("above B C;" + start + "edge B->D;edge C->A;edge D->A;", 0), [3, 1, 3, 0])
        self.assertEqual(circle_in(start + "above B D;above B C;edge C->A;edge D->A;", 0), [3, 1, 3, 0])

    def test_order_in_which_boxes_were_come_to(self):
        # D is come to ahead of C, so E is come to from D, though C has the lesser number and the earlier edge.
        text = ABCD + "box E;edge A->B;edge C->E;edge D->E;edge B->D;edge B->C;edge E->A;"
        self.assertEqual(circle_in(text, 0), [4, 1, 3, 4, 0])
