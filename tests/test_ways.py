"""The first shortest way, as circle and way tell it."""

import unittest

from helper import CYCLE, SLACK, TURNED, ask_of, circle, named_boxes, way

ABCD = "box A;box B;box C;box D;"


def circle_in(text, number):
    return ask_of(text, circle(number))[0]


class Circle(unittest.TestCase):
    def test_worked_text(self):
        found = ask_of(CYCLE, *[circle(number) for number in range(6)])
        self.assertEqual(found, [[3, 1, 2, 0], [3, 2, 0, 1], [2, 0, 2], [3, 3, 2, 0], [3, 2, 0, 3], [2, 2, 0]])

    def test_none(self):
        self.assertEqual(circle_in(SLACK, 0), [0])
        self.assertEqual(circle_in(ABCD + "edge A->B;edge B->A;edge B->C;", 2), [0])

    def test_turned_edges_are_gone_as_told(self):
        text = ABCD + "edge A->B;edge B->A;"
        self.assertEqual(ask_of(text, TURNED), [[1, 0, 1]])
        self.assertEqual(circle_in(text, 0), [2, 1, 0])
        self.assertEqual(circle_in(text, 1), [2, 0, 1])

    def test_through_wishes(self):
        self.assertEqual(circle_in(ABCD + "edge A->B;above B A;", 0), [2, 1, 0])
        self.assertEqual(circle_in(ABCD + "edge A->B;above B C;edge C->D;above D A;", 0), [4, 1, 2, 3, 0])

    def test_wish_is_not_gone_the_other_way(self):
        self.assertEqual(circle_in(ABCD + "edge A->B;above A B;", 0), [0])

    def test_shorter_one_counts(self):
        text = ABCD + "edge A->B;edge B->C;edge C->D;edge D->A;"
        self.assertEqual(circle_in(text, 0), [4, 1, 2, 3, 0])
        self.assertEqual(circle_in(text + "above B D;", 0), [3, 1, 3, 0])
        self.assertEqual(circle_in(text + "edge B->A;", 0), [2, 1, 0])

    def test_of_the_shortest_the_first_by_its_edges(self):
        start = ABCD + "edge A->B;"
        self.assertEqual(circle_in(start + "edge B->C;edge B->D;edge C->A;edge D->A;", 0), [3, 1, 2, 0])
        self.assertEqual(circle_in(start + "edge B->D;edge B->C;edge C->A;edge D->A;", 0), [3, 1, 3, 0])
        self.assertEqual(circle_in(start + "edge D->A;edge C->A;edge B->C;edge B->D;", 0), [3, 1, 2, 0])

    def test_edges_are_gone_ahead_of_wishes(self):
        start = ABCD + "edge A->B;"
        self.assertEqual(circle_in("above B C;" + start + "edge B->D;edge C->A;edge D->A;", 0), [3, 1, 3, 0])
        self.assertEqual(circle_in(start + "above B D;above B C;edge C->A;edge D->A;", 0), [3, 1, 3, 0])

    def test_order_in_which_boxes_were_come_to(self):
        # D is come to ahead of C, so E is come to from D, though C has the lesser number and the earlier edge.
        text = ABCD + "box E;edge A->B;edge C->E;edge D->E;edge B->D;edge B->C;edge E->A;"
        self.assertEqual(circle_in(text, 0), [4, 1, 3, 4, 0])


def way_in(text, start, goal):
    return ask_of(text, way(start, goal))[0]


class Way(unittest.TestCase):
    def test_worked_text(self):
        self.assertEqual(ask_of(CYCLE, way(0, 2), way(1, 3)), [[2, 0, 2], [0]])
        self.assertEqual(ask_of(SLACK, way(0, 2), way(3, 2), way(3, 0)), [[3, 0, 1, 2], [2, 3, 2], [0]])

    def test_from_a_box_to_itself(self):
        self.assertEqual(ask_of(CYCLE, *[way(k, k) for k in range(4)]), [[1, k] for k in range(4)])
        self.assertEqual(way_in("box A;", 0, 0), [1, 0])
        self.assertEqual(way_in(ABCD + "above A B;", 1, 1), [1, 1])

    def test_turned_edges_are_gone_as_they_go_down(self):
        text = ABCD + "edge A->B;edge B->C;edge C->A;"
        self.assertEqual(ask_of(text, TURNED), [[1, 0, 1]])
        found = ask_of(text, way(1, 0), way(0, 1), way(1, 2), way(2, 0), way(2, 1))
        self.assertEqual(found, [[2, 1, 0], [0], [2, 1, 2], [2, 2, 0], [0]])

    def test_edges_not_kept_are_gone_as_they_go_down(self):
        text = ABCD + "edge A->B;" * 6 + "edge B->C;edge C->A;" * 3
        self.assertEqual(ask_of(text, TURNED), [[3, 7, 9, 11, 0]])
        self.assertEqual(ask_of(text, way(0, 2), way(2, 0), way(1, 0)), [[2, 0, 2], [0], [0]])

    def test_wishes_are_not_gone(self):
        self.assertEqual(ask_of(ABCD + "above A B;", way(0, 1), way(1, 0)), [[0], [0]])
        text = ABCD + "edge A->B;above B C;edge C->D;"
        self.assertEqual(ask_of(text, way(0, 3), way(0, 1), way(2, 3)), [[0], [2, 0, 1], [2, 2, 3]])
        self.assertEqual(way_in(ABCD + "edge A->B;edge B->C;above A C;", 0, 2), [3, 0, 1, 2])

    def test_none(self):
        self.assertEqual(ask_of(ABCD + "edge A->B;edge C->B;", way(0, 2), way(1, 0), way(0, 3)), [[0], [0], [0]])

    def test_shorter_one_counts(self):
        text = ABCD + "edge A->B;edge B->C;edge C->D;"
        self.assertEqual(way_in(text, 0, 3), [4, 0, 1, 2, 3])
        self.assertEqual(way_in(text + "edge B->D;", 0, 3), [3, 0, 1, 3])
        self.assertEqual(way_in(text + "edge B->D;edge A->D;", 0, 3), [2, 0, 3])

    def test_of_the_shortest_the_first_by_its_edges(self):
        self.assertEqual(way_in(ABCD + "edge A->B;edge A->C;edge B->D;edge C->D;", 0, 3), [3, 0, 1, 3])
        self.assertEqual(way_in(ABCD + "edge A->C;edge A->B;edge B->D;edge C->D;", 0, 3), [3, 0, 2, 3])
        self.assertEqual(way_in(ABCD + "edge C->D;edge B->D;edge A->B;edge A->C;", 0, 3), [3, 0, 1, 3])

    def test_turned_edge_keeps_its_place_in_the_order(self):
        # The edge 0 is turned by the wish and goes from A to C, ahead of the edge from A to B.
        text = ABCD + "edge C->A;edge A->B;edge B->D;edge C->D;above A C;"
        self.assertEqual(ask_of(text, TURNED, way(0, 3)), [[1, 0, 1], [3, 0, 2, 3]])

    def test_order_in_which_boxes_were_come_to(self):
        # D is come to ahead of C, so E is come to from D, though C has the lesser number and the earlier edge.
        text = ABCD + "box E;edge A->B;edge C->E;edge D->E;edge B->D;edge B->C;"
        self.assertEqual(way_in(text, 0, 4), [4, 0, 1, 3, 4])

    def test_longest_way(self):
        chain = "".join(f"edge B{k}->B{k + 1};" for k in range(23))
        self.assertEqual(way_in(named_boxes(24) + chain, 0, 23), [24] + list(range(24)))
        self.assertEqual(way_in(named_boxes(24) + chain, 23, 0), [0])
