"""Boxes that hang together."""

import unittest

from helper import CYCLE, PARTS, SLACK, ask_of, named_boxes


def parts_in(text):
    return ask_of(text, PARTS)[0]


class Parts(unittest.TestCase):
    def test_worked_texts(self):
        self.assertEqual(parts_in(CYCLE), [1, 0, 0, 0, 0])
        self.assertEqual(parts_in(SLACK), [1, 0, 0, 0, 0])

    def test_no_box(self):
        self.assertEqual(parts_in(""), [0])

    def test_boxes_without_edges(self):
        self.assertEqual(parts_in("box A;"), [1, 0])
        self.assertEqual(parts_in(named_boxes(24)), [24] + list(range(24)))
        self.assertEqual(parts_in(named_boxes(4) + "edge B1->B2;"), [3, 0, 1, 1, 3])

    def test_several_parts(self):
        self.assertEqual(parts_in(named_boxes(6) + "edge B0->B3;edge B4->B1;edge B5->B1;"), [3, 0, 1, 2, 0, 1, 1])
        self.assertEqual(parts_in(named_boxes(4) + "edge B2->B3;edge B3->B2;edge B1->B0;"), [2, 0, 0, 2, 2])

    def test_edges_are_gone_whichever_way(self):
        self.assertEqual(parts_in(named_boxes(3) + "edge B1->B0;edge B1->B2;"), [1, 0, 0, 0])
        self.assertEqual(parts_in(named_boxes(3) + "edge B0->B2;edge B1->B2;"), [1, 0, 0, 0])

    def test_least_number_is_found_from_afar(self):
        for order in (range(23), range(22, -1, -1)):
            chain = "".join(f"edge B{k}->B{k + 1};" for k in order)
            self.assertEqual(parts_in(named_boxes(24) + chain), [1] + [0] * 24)
        self.assertEqual(parts_in(named_boxes(7) + "edge B6->B5;edge B4->B3;edge B3->B5;edge B1->B6;"),
                         [3, 0, 1, 2, 1, 1, 1, 1])

    def test_turned_edges_count(self):
        self.assertEqual(parts_in(named_boxes(3) + "edge B1->B2;edge B2->B1;"), [2, 0, 1, 1])
        self.assertEqual(parts_in(named_boxes(3) + "above B0 B2;edge B2->B0;"), [2, 0, 1, 0])

    def test_edges_that_stand_twice(self):
        self.assertEqual(parts_in(named_boxes(3) + "edge B1->B2;" * 40), [2, 0, 1, 1])

    def test_wishes_do_not_count(self):
        self.assertEqual(parts_in(named_boxes(2) + "above B0 B1;"), [2, 0, 1])
        self.assertEqual(parts_in(named_boxes(4) + "edge B0->B1;above B1 B2;edge B2->B3;"), [2, 0, 0, 2, 2])
