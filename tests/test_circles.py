"""Which edges stand on circles, and which are turned."""

import unittest

from helper import CYCLE, GREEDY, SIZES, SLACK, TURNED, ask_of, edge, turned_in

AB = "box A;box B;"
ABC = AB + "box C;"
ABCD = ABC + "box D;"


def circling_in(text):
    return ask_of(text, SIZES)[0][3]


class OnCircles(unittest.TestCase):
    def test_worked_texts(self):
        self.assertEqual(circling_in(CYCLE), 6)
        self.assertEqual(circling_in(SLACK), 0)

    def test_edges_beside_a_circle_do_not_count(self):
        self.assertEqual(circling_in(ABCD + "edge A->B;edge B->A;edge B->C;edge C->D;edge B->D;"), 2)

    def test_edges_between_two_circles_do_not_count(self):
        text = ABCD + "edge A->B;edge B->A;edge C->D;edge D->C;edge A->C;edge B->D;"
        self.assertEqual(circling_in(text), 4)

    def test_wishes_take_part(self):
        self.assertEqual(circling_in(AB + "edge A->B;above B A;"), 1)
        self.assertEqual(circling_in(ABC + "edge A->B;above B C;edge C->A;"), 2)
        self.assertEqual(circling_in(ABC + "edge A->B;above A C;above B C;"), 0)


class LeastSet(unittest.TestCase):
    def test_worked_texts(self):
        self.assertEqual(turned_in(CYCLE), [1, 2, 1])
        self.assertEqual(turned_in(SLACK), [0, 1])

    def test_no_circle(self):
        self.assertEqual(turned_in(""), [0, 1])
        self.assertEqual(turned_in(AB), [0, 1])
        self.assertEqual(turned_in(AB + "edge A->B;" * 40), [0, 1])

    def test_first_of_single_edges(self):
        self.assertEqual(turned_in(AB + "edge A->B;edge B->A;"), [1, 0, 1])
        self.assertEqual(turned_in(ABC + "edge C->B;edge A->B;edge B->C;edge C->A;"), [1, 2, 1])

    def test_size_counts_ahead_of_numbers(self):
        self.assertEqual(turned_in(AB + "edge A->B;edge A->B;edge B->A;"), [1, 2, 1])

    def test_first_number_that_differs_decides(self):
        # Least sets are {0, 3} (all from A to B) and {1, 2} (all from B to A).
        text = AB + "edge A->B;edge B->A;edge B->A;edge A->B;"
        self.assertEqual(turned_in(text), [2, 0, 3, 1])
        # Here they are {0, 2}, {0, 3}, {1, 2}, {1, 3}.
        text = ABCD + "edge A->B;edge B->A;edge C->D;edge D->C;"
        self.assertEqual(turned_in(text), [2, 0, 2, 1])

    def test_edge_that_stands_on_no_circle_is_not_turned(self):
        self.assertEqual(turned_in(ABCD + "edge A->D;edge D->B;edge B->C;edge C->B;"), [1, 2, 1])

    def test_wishes_stay(self):
        self.assertEqual(turned_in(AB + "above B A;edge A->B;edge A->B;edge B->A;"), [2, 0, 1, 1])
        self.assertEqual(turned_in(ABC + "above B C;edge C->A;edge A->B;"), [1, 0, 1])
        # The two edges that the wish closes a circle with have to go, so the third edge may stay.
        self.assertEqual(turned_in(ABC + "above B A;edge A->B;edge B->C;edge C->A;edge A->B;"), [2, 0, 3, 1])

    def test_edges_told_as_turned(self):
        found = ask_of(CYCLE, *[edge(number) for number in range(6)])
        self.assertEqual([answer[:4] for answer in found], [
            [0, 1, 0, 1], [1, 2, 0, 1], [2, 0, 1, 2], [0, 3, 0, 1], [3, 2, 0, 1], [0, 2, 0, 2],
        ])


class TenAndEleven(unittest.TestCase):
    def test_10_edges_least_set_and_11_those_not_kept(self):
        start = AB + "edge A->B;" * 3
        self.assertEqual(ask_of(start + "edge B->A;" * 7, SIZES, TURNED), [[2, 10, 0, 10], [3, 0, 1, 2, 1]])
        self.assertEqual(ask_of(start + "edge B->A;" * 8, SIZES, TURNED),
                         [[2, 11, 0, 11], [8, 3, 4, 5, 6, 7, 8, 9, 10, 0]])

    def test_edges_on_no_circle_do_not_count(self):
        start = ABC + "edge A->B;" + "edge C->A;" * 12 + "edge C->B;" * 12
        self.assertEqual(turned_in(start + "edge B->A;" * 9), [1, 0, 1])
        self.assertEqual(turned_in(start + "edge B->A;" * 10), [10] + list(range(25, 35)) + [0])

    def test_edges_on_circles_through_wishes_count_and_wishes_do_not(self):
        start = AB + "above A B;" * 16 + "edge A->B;"
        self.assertEqual(turned_in(start + "edge B->A;" * 9), [9] + list(range(1, 10)) + [1])
        start = ABC + "above A C;"
        self.assertEqual(turned_in(start + "edge C->B;" + "edge B->A;" * 9), [1, 0, 1])
        self.assertEqual(turned_in(start + "edge C->B;" + "edge B->A;" * 10), [10] + list(range(1, 11)) + [0])

    def test_all_10_have_to_be_turned(self):
        self.assertEqual(turned_in(AB + "above A B;" + "edge B->A;" * 10), [10] + list(range(10)) + [1])

    def test_not_kept_looks_at_kept_edges_alone(self):
        # The edge 4 (D to C) closes a circle with the edges 3 and 2, but the edge 2 is not kept itself.
        text = ABCD + "edge A->B;edge B->C;edge C->A;edge A->D;edge D->C;" + "edge A->C;" * 6
        self.assertEqual(ask_of(text, SIZES, TURNED), [[4, 11, 0, 11], [1, 2, 0]])

    def test_not_kept_looks_at_all_wishes(self):
        text = AB + "edge A->B;" * 6 + "edge B->A;" * 6
        self.assertEqual(turned_in(text), [6] + list(range(6, 12)) + [0])
        self.assertEqual(turned_in(text + "above B A;"), [6] + list(range(6)) + [0])


class Greedy(unittest.TestCase):
    def both(self, text, turned, greedy):
        self.assertEqual(ask_of(text, TURNED, GREEDY), [turned, greedy])

    def test_worked_texts(self):
        self.both(CYCLE, [1, 2, 1], [1, 2])
        self.both(SLACK, [0, 1], [0])

    def test_no_circle(self):
        self.both("", [0, 1], [0])
        self.both(AB, [0, 1], [0])
        self.both(AB + "edge A->B;" * 40, [0, 1], [0])

    def test_other_edges_than_the_least_set(self):
        self.both(AB + "edge A->B;edge B->A;", [1, 0, 1], [1, 1])
        self.both(ABC + "edge A->B;edge B->C;edge C->A;", [1, 0, 1], [1, 2])

    def test_more_edges_than_the_least_set(self):
        self.both(AB + "edge A->B;" + "edge B->A;" * 3, [1, 0, 1], [3, 1, 2, 3])
        self.both(AB + "edge A->B;" + "edge B->A;" * 9, [1, 0, 1], [9] + list(range(1, 10)))

    def test_wishes_are_kept_wherever_they_stand(self):
        self.both(AB + "edge A->B;edge B->A;above B A;", [1, 0, 1], [1, 0])
        self.both("above B C;" + ABC + "edge C->A;edge A->B;", [1, 0, 1], [1, 1])

    def test_edges_kept_before_alone_count(self):
        # The edge 1 is not kept, so the edges 2 and 3 close no circle with it.
        self.both(ABC + "edge A->B;edge B->A;edge A->C;edge C->B;", [1, 1, 1], [1, 1])

    def test_more_than_10_edges_on_circles(self):
        text = AB + "edge A->B;" * 3 + "edge B->A;" * 8
        self.both(text, [8] + list(range(3, 11)) + [0], [8] + list(range(3, 11)))
        self.both(AB + "edge A->B;edge B->A;" * 20, [20] + list(range(1, 40, 2)) + [0], [20] + list(range(1, 40, 2)))
        self.both(AB + "above B A;" + "edge A->B;" * 40, [40] + list(range(40)) + [0], [40] + list(range(40)))

    def test_10_edges_on_circles(self):
        text = AB + "edge A->B;" * 3 + "edge B->A;" * 7
        self.both(text, [3, 0, 1, 2, 1], [7] + list(range(3, 10)))
