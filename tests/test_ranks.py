"""Ranks: longest ways, boxes moved, empty ranks taken out; and the lengths of edges."""

import unittest

from boxranks.ranking import moved_ranks, without_empty_ranks
from helper import CYCLE, FAR, LENGTHS, RANKS, SLACK, ask_of, edge, named_boxes, rank, ranks_of


def lengths_in(text, edges):
    return [answer[3] for answer in ask_of(text, *[edge(number) for number in range(edges)])]


def boxes(names):
    return "".join(f"box {name};" for name in names)


class Ranks(unittest.TestCase):
    def test_worked_texts(self):
        self.assertEqual(ranks_of(CYCLE, 4), [0, 1, 2, 1])
        self.assertEqual(ranks_of(SLACK, 4), [0, 1, 2, 1])
        self.assertEqual(lengths_in(CYCLE, 6), [1, 1, 2, 1, 1, 2])
        self.assertEqual(lengths_in(SLACK, 3), [1, 1, 1])

    def test_no_edges(self):
        self.assertEqual(ranks_of(boxes("ABC"), 3), [0, 0, 0])

    def test_longest_way_counts(self):
        self.assertEqual(ranks_of(boxes("ABC") + "edge A->C;edge A->B;edge B->C;", 3), [0, 1, 2])
        chain = "".join(f"edge {a}->{b};" for a, b in zip("ABCDEFGHIJKLMNOPQRSTUVW", "BCDEFGHIJKLMNOPQRSTUVWX"))
        self.assertEqual(ranks_of(boxes("ABCDEFGHIJKLMNOPQRSTUVWX") + chain, 24), list(range(24)))

    def test_wishes_are_arcs(self):
        self.assertEqual(ranks_of(boxes("AB") + "above B A;", 2), [1, 0])
        self.assertEqual(ranks_of(boxes("ABC") + "edge A->C;above A B;above B C;", 3), [0, 1, 2])
        self.assertEqual(lengths_in(boxes("ABC") + "edge A->C;above A B;above B C;", 1), [2])

    def test_turned_edges_count_the_other_way(self):
        text = boxes("AB") + "edge B->A;edge A->B;edge A->B;"
        self.assertEqual(ranks_of(text, 2), [0, 1])
        self.assertEqual(lengths_in(text, 3), [1, 1, 1])
        self.assertEqual(ranks_of(boxes("AB") + "edge A->B;edge B->A;", 2), [1, 0])


class Moves(unittest.TestCase):
    CHAIN = "edge P->Q;edge Q->R;edge R->T;"

    def test_more_edges_out_than_in_moves_down(self):
        self.assertEqual(ranks_of(boxes("PQRTS") + self.CHAIN + "edge S->T;", 5), [0, 1, 2, 3, 2])
        self.assertEqual(ranks_of(boxes("SPQRT") + self.CHAIN + "edge S->T;", 5), [2, 0, 1, 2, 3])
        self.assertEqual(lengths_in(boxes("SPQRT") + self.CHAIN + "edge S->T;", 4), [1, 1, 1, 1])

    def test_highest_box_that_an_arc_goes_to_holds_it(self):
        self.assertEqual(ranks_of(boxes("PQRTS") + self.CHAIN + "edge S->T;edge S->R;", 5), [0, 1, 2, 3, 1])

    def test_wish_holds_it_too(self):
        self.assertEqual(ranks_of(boxes("PQRTS") + self.CHAIN + "edge S->T;above S R;", 5), [0, 1, 2, 3, 1])
        self.assertEqual(ranks_of(boxes("PQRTS") + self.CHAIN + "edge S->T;above S Q;", 5), [0, 1, 2, 3, 0])

    def test_wishes_do_not_count_as_edges_out_or_in(self):
        self.assertEqual(ranks_of(boxes("PQRTS") + self.CHAIN + "above S T;", 5), [0, 1, 2, 3, 0])
        text = boxes("PQRTSU") + self.CHAIN + "edge S->T;above U S;"
        self.assertEqual(ranks_of(text, 6), [0, 1, 2, 3, 2, 0])

    def test_as_many_edges_out_as_in_stays(self):
        text = boxes("PQRTSU") + self.CHAIN + "edge U->S;edge S->T;"
        self.assertEqual(ranks_of(text, 6), [0, 1, 2, 3, 1, 0])

    def test_each_edge_counts_also_beside_its_like(self):
        text = boxes("PQRTSU") + self.CHAIN + "edge U->S;edge S->T;edge S->T;"
        self.assertEqual(ranks_of(text, 6), [0, 1, 2, 3, 2, 1])

    def test_fewer_edges_out_than_in_stays_as_high_as_it_can(self):
        text = boxes("PQRTSU") + self.CHAIN + "edge U->S;edge U->S;edge S->T;"
        self.assertEqual(ranks_of(text, 6), [0, 1, 2, 3, 1, 0])

    def test_edges_out_and_in_as_they_go_down(self):
        # As told, one edge goes out of S and two come in; turned, the one from T goes out too.
        text = boxes("PQRTSU") + self.CHAIN + "above S T;edge T->S;edge S->T;edge U->S;"
        self.assertEqual(ask_of(text, edge(3))[0][2], 1)
        self.assertEqual(ranks_of(text, 6), [0, 1, 2, 3, 2, 1])

    def test_moved_in_a_second_pass(self):
        told = self.CHAIN + "edge U->S;edge S->T;edge S->T;"
        self.assertEqual(ranks_of(boxes("USPQRT") + told, 6), [1, 2, 0, 1, 2, 3])

    def test_moved_in_a_third_pass(self):
        told = self.CHAIN + "edge T->W;edge V->U;edge U->S;edge U->S;" + "edge S->W;" * 3
        self.assertEqual(ranks_of(boxes("VUSPQRTW") + told, 8), [1, 2, 3, 0, 1, 2, 3, 4])

    def test_order_of_boxes_in_the_text_is_the_order_of_moves(self):
        # S holds U back until it is moved itself; either way both end as low as they can.
        told = self.CHAIN + "edge U->S;edge S->T;edge S->T;"
        self.assertEqual(ranks_of(boxes("SUPQRT") + told, 6), [2, 1, 0, 1, 2, 3])


class RanksTold(unittest.TestCase):
    def test_how_many_ranks_then_each_box(self):
        self.assertEqual(ask_of(CYCLE, RANKS), [[3, 0, 1, 2, 1]])
        self.assertEqual(ask_of(SLACK, RANKS), [[3, 0, 1, 2, 1]])
        self.assertEqual(ask_of("", RANKS), [[0]])
        self.assertEqual(ask_of("box A;", RANKS), [[1, 0]])
        self.assertEqual(ask_of(named_boxes(24), RANKS), [[1] + [0] * 24])
        self.assertEqual(ask_of(boxes("AB") + "above B A;", RANKS), [[2, 1, 0]])

    def test_as_many_ranks_as_boxes(self):
        chain = "".join(f"edge B{k + 1}->B{k};" for k in range(23))
        self.assertEqual(ask_of(named_boxes(24) + chain, RANKS), [[24] + list(range(23, -1, -1))])


class RankTold(unittest.TestCase):
    def ranks_told(self, text, many):
        """The boxes rank by rank; beside the first and the last rank there is none."""
        found = ask_of(text, *[rank(number) for number in range(-1, many + 1)], rank(FAR), rank(-FAR))
        self.assertEqual([found[0]] + found[many + 1:], [[-2]] * 4)
        return found[1:many + 1]

    def test_first_and_last_rank_and_beside_them(self):
        self.assertEqual(self.ranks_told(CYCLE, 3), [[1, 0], [2, 1, 3], [1, 2]])
        self.assertEqual(self.ranks_told(SLACK, 3), [[1, 0], [2, 1, 3], [1, 2]])
        self.assertEqual(self.ranks_told("box A;", 1), [[1, 0]])
        self.assertEqual(self.ranks_told("", 0), [])

    def test_least_number_first(self):
        self.assertEqual(self.ranks_told(named_boxes(24), 1), [[24] + list(range(24))])
        self.assertEqual(self.ranks_told(boxes("ABCDE") + "edge E->D;edge E->B;edge C->A;edge C->B;", 2),
                         [[2, 2, 4], [3, 0, 1, 3]])

    def test_ranks_before_boxes_were_moved_do_not_count(self):
        # By longest ways S would stand on the rank 0.
        text = boxes("SPQR") + "edge P->Q;edge Q->R;edge S->R;"
        self.assertEqual(self.ranks_told(text, 3), [[1, 1], [2, 0, 2], [1, 3]])

    def test_as_many_ranks_as_boxes(self):
        chain = "".join(f"above B{k} B{k + 1};" for k in range(16))
        chain = chain + "".join(f"edge B{k}->B{k + 1};" for k in range(16, 23))
        self.assertEqual(self.ranks_told(named_boxes(24) + chain, 24), [[1, number] for number in range(24)])


class LengthsTold(unittest.TestCase):
    def lengths(self, text):
        return ask_of(text, LENGTHS)[0]

    def test_worked_texts(self):
        self.assertEqual(self.lengths(CYCLE), [8, 8])
        self.assertEqual(self.lengths(SLACK), [3, 4])

    def test_no_edges(self):
        self.assertEqual(self.lengths(""), [0, 0])
        self.assertEqual(self.lengths(boxes("AB")), [0, 0])

    def test_no_box_moves(self):
        self.assertEqual(self.lengths(boxes("ABC") + "edge A->B;edge B->C;edge A->C;"), [4, 4])

    def test_boxes_move(self):
        self.assertEqual(self.lengths(boxes("PQRTS") + Moves.CHAIN + "edge S->T;"), [4, 6])
        self.assertEqual(self.lengths(boxes("USPQRT") + Moves.CHAIN + "edge U->S;edge S->T;edge S->T;"), [6, 8])

    def test_edges_that_stand_twice_count_twice(self):
        self.assertEqual(self.lengths(boxes("AB") + "edge A->B;edge A->B;"), [2, 2])
        self.assertEqual(self.lengths(boxes("PQRS") + "edge P->Q;edge Q->R;edge S->R;edge S->R;"), [4, 6])
        self.assertEqual(self.lengths(boxes("AB") + "edge A->B;" * 40), [40, 40])

    def test_turned_edges_count_as_they_go_down(self):
        self.assertEqual(self.lengths(boxes("AB") + "edge A->B;edge B->A;"), [2, 2])
        self.assertEqual(self.lengths(boxes("AB") + "edge A->B;edge B->A;" * 20), [40, 40])

    def test_wishes_have_no_length_but_make_edges_longer(self):
        self.assertEqual(self.lengths(boxes("AB") + "above A B;"), [0, 0])
        self.assertEqual(self.lengths(boxes("ABC") + "edge A->C;above A B;above B C;"), [2, 2])
        self.assertEqual(self.lengths(boxes("PQRS") + "above P Q;above Q R;edge S->R;"), [1, 2])

    def test_together_they_are_those_of_each_edge(self):
        for text, edges in ((CYCLE, 6), (SLACK, 3)):
            self.assertEqual(self.lengths(text)[0], sum(lengths_in(text, edges)))


class Steps(unittest.TestCase):
    """No text leads to boxes that move up or to ranks without a box (longest ways put each box as high as can be, and
    the way to the lowest box fills all ranks), so these steps are looked at by themselves."""

    def test_moves_up_below_the_lowest_box_from_which_an_arc_comes(self):
        self.assertEqual(moved_ranks([0, 1, 5], [(0, 1), (1, 2)], []), [0, 1, 2])
        self.assertEqual(moved_ranks([5, 0, 1], [(1, 0)], [(2, 0)]), [2, 1, 1])
        self.assertEqual(moved_ranks([0, 3, 7], [(0, 2), (0, 2)], [(0, 1), (1, 2)]), [2, 3, 4])

    def test_moves_up_in_a_second_pass(self):
        self.assertEqual(moved_ranks([6, 4, 0], [(1, 0), (2, 1), (2, 1)], []), [2, 1, 0])
        self.assertEqual(moved_ranks([9, 5, 0, 1], [(2, 3), (3, 1), (3, 1), (2, 1), (1, 0)], []), [3, 2, 0, 1])

    def test_first_ranks_are_not_changed(self):
        first = [0, 1, 5]
        moved_ranks(first, [(0, 1), (1, 2)], [])
        self.assertEqual(first, [0, 1, 5])

    def test_empty_ranks_are_taken_out(self):
        self.assertEqual(without_empty_ranks([]), [])
        self.assertEqual(without_empty_ranks([4]), [0])
        self.assertEqual(without_empty_ranks([7, 2, 2, 5]), [2, 0, 0, 1])
        self.assertEqual(without_empty_ranks([0, 1, 3]), [0, 1, 2])
        self.assertEqual(without_empty_ranks([1, 0, 2]), [1, 0, 2])
