"""Ranks: longest ways, boxes moved, empty ranks taken out; and the lengths of edges."""

import unittest

from boxranks.ranking import moved_ranks, without_empty_ranks
from helper import CYCLE, SLACK, ask_of, edge, ranks_of


def lengths_in(text, edges):
    return [answer[3] for answer in ask_of(text, *[edge(number) for number in range(edges)])]


def boxes(names):
    return "".join(f"box {name};" for name in names)


class Ranks(unittest.TestCase):
    def test_worked_texts(self):
        self.assertEqual(ranks_of(CYCLE, 4), [0, 1, 2, 1])
        self.assertEqual(ranks_of(SLACK, 4), [0, 1, 2, 1])
        self.assertEqual(lengths_in(CYCLE, 6), [1, 1, 2, 1, 1, 2])
        self.assertEqual(lengths_in(SLACK, 3), [1, 1, 1])

    def test_no_edges(self):
        self.assertEqual(ranks_of(boxes("ABC"), 3), [0, 0, 0])

    def test_longest_way_counts(self):
        self.assertEqual(ranks_of(boxes("ABC") + "edge A->C;edge A->B;edge B->C;", 3), [0, 1, 2])
        chain = "".join(f"edge {a}->{b};" for a, b in zip("ABCDEFGHIJKLMNOPQRSTUVW", "BCDEFGHIJKLMNOPQRSTUVWX"))
        self.assertEqual(ranks_of(boxes("ABCDEFGHIJKLMNOPQRSTUVWX") + chain, 24), list(range(24)))

    def test_wishes_are_arcs(self):
        self.assertEqual(ranks_of(boxes("AB") + "above B A;", 2), [1, 0])
        self.assertEqual(ranks_of(boxes("ABC") + "edge A->C;above A B;above B C;", 3), [0, 1, 2])
        self.assertEqual(lengths_in(boxes("ABC") + "edge A->C;above A B;above B C;", 1), [2])

    def test_turned_edges_count_the_other_way(self):
        text = boxes("AB") + "edge B->A;edge A->B;edge A->B;"
        self.assertEqual(ranks_of(text, 2), [0, 1])
        self.assertEqual(lengths_in(text, 3), [1, 1, 1])
        self.assertEqual(ranks_of(boxes("AB") + "edge A->B;edge B->A;", 2), [1, 0])


class Moves(unittest.TestCase):
    CHAIN = "edge P->Q;edge Q->R;edge R->T;"

    def test_more_edges_out_than_in_moves_down(self):
        self.assertEqual(ranks_of(boxes("PQRTS") + self.CHAIN + "edge S->T;", 5), [0, 1, 2, 3, 2])
        self.assertEqual(ranks_of(boxes("SPQRT") + self.CHAIN + "edge S->T;", 5), [2, 0, 1, 2, 3])
        self.assertEqual(lengths_in(boxes("SPQRT") + self.CHAIN + "edge S->T;", 4), [1, 1, 1, 1])

    def test_highest_box_that_an_arc_goes_to_holds_it(self):
        self.assertEqual(ranks_of(boxes("PQRTS") + self.CHAIN + "edge S->T;edge S->R;", 5), [0, 1, 2, 3, 1])

    def test_wish_holds_it_too(self):
        self.assertEqual(ranks_of(boxes("PQRTS") + self.CHAIN + "edge S->T;above S R;", 5), [0, 1, 2, 3, 1])
        self.assertEqual(ranks_of(boxes("PQRTS") + self.CHAIN + "edge S->T;above S Q;", 5), [0, 1, 2, 3, 0])

    def test_wishes_do_not_count_as_edges_out_or_in(self):
        self.assertEqual(ranks_of(boxes("PQRTS") + self.CHAIN + "above S T;", 5), [0, 1, 2, 3, 0])
        text = boxes("PQRTSU") + self.CHAIN + "edge S->T;above U S;"
        self.assertEqual(ranks_of(text, 6), [0, 1, 2, 3, 2, 0])

    def test_as_many_edges_out_as_in_stays(self):
        text = boxes("PQRTSU") + self.CHAIN + "edge U->S;edge S->T;"
        self.assertEqual(ranks_of(text, 6), [0, 1, 2, 3, 1, 0])

    def test_each_edge_counts_also_beside_its_like(self):
        text = boxes("PQRTSU") + self.CHAIN + "edge U->S;edge S->T;edge S->T;"
        self.assertEqual(ranks_of(text, 6), [0, 1, 2, 3, 2, 1])

    def test_fewer_edges_out_than_in_stays_as_high_as_it_can(self):
        text = boxes("PQRTSU") + self.CHAIN + "edge U->S;edge U->S;edge S->T;"
        self.assertEqual(ranks_of(text, 6), [0, 1, 2, 3, 1, 0])

    def test_edges_out_and_in_as_they_go_down(self):
        # As told, one edge goes out of S and two come in; turned, the one from T goes out too.
        text = boxes("PQRTSU") + self.CHAIN + "above S T;edge T->S;edge S->T;edge U->S;"
        self.assertEqual(ask_of(text, edge(3))[0][2], 1)
        self.assertEqual(ranks_of(text, 6), [0, 1, 2, 3, 2, 1])

    def test_moved_in_a_second_pass(self):
        told = self.CHAIN + "edge U->S;edge S->T;edge S->T;"
        self.assertEqual(ranks_of(boxes("USPQRT") + told, 6), [1, 2, 0, 1, 2, 3])

    def test_moved_in_a_third_pass(self):
        told = self.CHAIN + "edge T->W;edge V->U;edge U->S;edge U->S;" + "edge S->W;" * 3
        self.assertEqual(ranks_of(boxes("VUSPQRTW") + told, 8), [1, 2, 3, 0, 1, 2, 3, 4])

    def test_order_of_boxes_in_the_text_is_the_order_of_moves(self):
        # S holds U back until it is moved itself; either way both end as low as they can.
        told = self.CHAIN + "edge U->S;edge S->T;edge S->T;"
        self.assertEqual(ranks_of(boxes("SUPQRT") + told, 6), [2, 1, 0, 1, 2, 3])


class Steps(unittest.TestCase):
    """No text leads to boxes that move up or to ranks without a box (longest ways put each box as high as can be, and
    the way to the lowest box fills all ranks), so these steps are looked at by themselves."""

    def test_moves_up_below_the_lowest_box_from_which_an_arc_comes(self):
        self.assertEqual(moved_ranks([0, 1, 5], [(0, 1), (1, 2)], []), [0, 1, 2])
        self.assertEqual(moved_ranks([5, 0, 1], [(1, 0)], [(2, 0)]), [2, 1, 1])
        self.assertEqual(moved_ranks([0, 3, 7], [(0, 2), (0, 2)], [(0, 1), (1, 2)]), [2, 3, 4])

    def test_moves_up_in_a_second_pass(self):
        self.assertEqual(moved_ranks([6, 4, 0], [(1, 0), (2, 1), (2, 1)], []), [2, 1, 0])
        self.assertEqual(moved_ranks([9, 5, 0, 1], [(2, 3), (3, 1), (3, 1), (2, 1), (1, 0)], []), [3, 2, 0, 1])

    def test_first_ranks_are_not_changed(self):
        first = [0, 1, 5]
        moved_ranks(first, [(0, 1), (1, 2)], [])
        self.assertEqual(first, [0, 1, 5])

    def test_empty_ranks_are_taken_out(self):
        self.assertEqual(without_empty_ranks([]), [])
        self.assertEqual(without_empty_ranks([4]), [0])
        self.assertEqual(without_empty_ranks([7, 2, 2, 5]), [2, 0, 0, 1])
        self.assertEqual(without_empty_ranks([0, 1, 3]), [0, 1, 2])
        self.assertEqual(without_empty_ranks([1, 0, 2]), [1, 0, 2])
