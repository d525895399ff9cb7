"""The promises on many diagrams, looked at by other means than those of the program."""

import itertools
import unittest

from helper import (GREEDY, LENGTHS, PARTS, RANKS, SIZES, TURNED, ask_of, box, circle, edge, rank, thrown_diagram, way,
                    written)

SEEDS = range(400)


def distances(boxes, arcs):
    """For each pair of boxes how many arcs the shortest way of one or more has; None if there is none."""
    far = [[None] * boxes for _ in range(boxes)]
    for begin, end in arcs:
        far[begin][end] = 1
    for middle, begin, end in itertools.product(range(boxes), repeat=3):
        if far[begin][middle] is not None and far[middle][end] is not None:
            steps = far[begin][middle] + far[middle][end]
            if far[begin][end] is None or steps < far[begin][end]:
                far[begin][end] = steps
    return far


def has_circle(boxes, arcs):
    """Boxes without arcs to them are taken away as long as there are any."""
    left = set(range(boxes))
    while True:
        free = {k for k in left if not any(end == k and begin in left for begin, end in arcs)}
        if not free:
            return bool(left)
        left -= free


def longest_ranks(boxes, arcs):
    ranks = {}
    while len(ranks) < boxes:
        for k in range(boxes):
            before = [begin for begin, end in arcs if end == k]
            if all(begin in ranks for begin in before):
                ranks[k] = max([ranks[begin] + 1 for begin in before], default=0)
    return [ranks[k] for k in range(boxes)]


def without(edges, numbers):
    return [arc for number, arc in enumerate(edges) if number not in numbers]


def with_turned(edges, numbers):
    return [arc[::-1] if number in numbers else arc for number, arc in enumerate(edges)]


def together(ranks, edges):
    return sum(ranks[end] - ranks[begin] for begin, end in edges)


class Told:
    """A thrown diagram and what the program tells of it."""

    def __init__(self, seed):
        self.boxes, self.edges, self.wishes = thrown_diagram(seed)
        self.text = written(self.boxes, self.edges, self.wishes)
        sizes, turned, ranks, self.lengths, self.parts, self.greedy = ask_of(
            self.text, SIZES, TURNED, RANKS, LENGTHS, PARTS, GREEDY)
        self.circling = sizes[3]
        self.turned = turned[1:-1]
        self.turned_count = turned[0]
        self.least = turned[-1]
        self.ranks = ranks[1:]
        self.ranks_count = ranks[0]
        self.edge_answers = ask_of(self.text, *[edge(k) for k in range(len(self.edges))])
        self.circles = ask_of(self.text, *[circle(k) for k in range(len(self.edges))])
        self.down = with_turned(self.edges, self.turned)
        self.arcs = self.edges + self.wishes
        # All ways together may be more calls than there may be on one object, so each first box has one of its own.
        self.ways = [ask_of(self.text, *[way(start, goal) for goal in range(self.boxes)])
                     for start in range(self.boxes)]


class Promises(unittest.TestCase):
    @classmethod
    def setUpClass(cls):
        cls.told = [Told(seed) for seed in SEEDS]

    def test_thrown_diagrams_are_of_many_sorts(self):
        self.assertTrue(any(told.circling == 10 for told in self.told))
        self.assertTrue(any(told.circling == 11 for told in self.told))
        self.assertTrue(any(told.turned_count > 2 and told.least == 1 for told in self.told))
        self.assertTrue(any(told.ranks != longest_ranks(told.boxes, told.down + told.wishes) for told in self.told))
        full = [told for told in self.told if (told.boxes, len(told.edges), len(told.wishes)) == (24, 40, 16)]
        self.assertEqual({told.least for told in full}, {0, 1})
        self.assertTrue(any(told.turned_count > 0 and told.least == 1 for told in full))
        self.assertTrue(any(not told.wishes and told.circling > 10 for told in self.told))
        self.assertTrue(any(told.least == 1 and told.greedy[0] > told.turned_count for told in self.told))
        self.assertTrue(any(told.lengths[0] < told.lengths[1] for told in self.told))
        self.assertTrue(any(2 < told.parts[0] < told.boxes for told in self.told))

    def test_edges_on_circles(self):
        for told in self.told:
            far = distances(told.boxes, told.arcs)
            on_circles = [k for k, arc in enumerate(told.edges) if far[arc[1]][arc[0]] is not None]
            self.assertEqual(told.circling, len(on_circles))
            self.assertEqual(told.least, 1 if len(on_circles) <= 10 else 0)
            self.assertLessEqual(set(told.turned), set(on_circles))

    def test_1_no_circle_and_each_one_needed(self):
        for told in self.told:
            self.assertEqual(told.turned, sorted(set(told.turned)))
            self.assertEqual(told.turned_count, len(told.turned))
            self.assertFalse(has_circle(told.boxes, told.down + told.wishes))
            for number in told.turned:
                others = [other for other in told.turned if other != number]
                self.assertTrue(has_circle(told.boxes, with_turned(told.edges, others) + told.wishes))

    def test_1_first_least_set(self):
        for told in self.told:
            if told.least == 1:
                self.assertEqual(told.turned, self.first_least_set(told))

    def first_least_set(self, told):
        far = distances(told.boxes, told.arcs)
        on_circles = [k for k, arc in enumerate(told.edges) if far[arc[1]][arc[0]] is not None]
        for size in range(len(on_circles) + 1):
            for chosen in itertools.combinations(on_circles, size):
                if not has_circle(told.boxes, without(told.edges, chosen) + told.wishes):
                    return list(chosen)

    def test_those_not_kept(self):
        for told in self.told:
            kept = list(told.wishes)
            not_kept = []
            for number, arc in enumerate(told.edges):
                if has_circle(told.boxes, kept + [arc]):
                    not_kept.append(number)
                else:
                    kept.append(arc)
            self.assertEqual(told.greedy, [len(not_kept)] + not_kept)
            if told.least == 0:
                self.assertEqual(told.turned, not_kept)

    def test_1_no_smaller_set_than_a_least_one(self):
        for told in self.told:
            if told.least == 1:
                self.assertLessEqual(told.turned_count, told.greedy[0])

    def test_2_all_go_down(self):
        for told in self.told:
            for begin, end in told.down + told.wishes:
                self.assertLess(told.ranks[begin], told.ranks[end])

    def test_edges_as_told(self):
        for told in self.told:
            for number, (begin, end) in enumerate(told.edges):
                turned = 1 if number in told.turned else 0
                length = abs(told.ranks[begin] - told.ranks[end])
                self.assertEqual(told.edge_answers[number], [begin, end, turned, length, 0])

    def test_3_never_longer_than_by_longest_ways(self):
        for told in self.told:
            first = longest_ranks(told.boxes, told.down + told.wishes)
            self.assertEqual(told.lengths, [together(told.ranks, told.down), together(first, told.down)])
            self.assertEqual(told.lengths[0], sum(answer[3] for answer in told.edge_answers))
            self.assertLessEqual(told.lengths[0], told.lengths[1])

    def test_3_no_single_box_could_be_moved(self):
        for told in self.told:
            now = together(told.ranks, told.down)
            for k in range(told.boxes):
                for rank in range(-1, max(told.ranks) + 2):
                    ranks = told.ranks[:k] + [rank] + told.ranks[k + 1:]
                    if all(ranks[begin] < ranks[end] for begin, end in told.down + told.wishes):
                        self.assertGreaterEqual(together(ranks, told.down), now)

    def test_ranks_are_those_of_the_told_moves(self):
        for told in self.told:
            self.assertEqual(told.ranks, self.moved(told))

    def moved(self, told):
        ranks = longest_ranks(told.boxes, told.down + told.wishes)
        arcs = told.down + told.wishes
        before = None
        while before != ranks:
            before = list(ranks)
            for k in range(told.boxes):
                more = sum(begin == k for begin, end in told.down) - sum(end == k for begin, end in told.down)
                step = (more > 0) - (more < 0)
                while step and all(
                    ranks[begin] + (step if begin == k else 0) < ranks[end] + (step if end == k else 0)
                    for begin, end in arcs
                ):
                    ranks[k] += step
        places = {rank: place for place, rank in enumerate(sorted(set(ranks)))}
        return [places[rank] for rank in ranks]

    def test_4_no_rank_is_empty_and_the_first_is_0(self):
        for told in self.told:
            self.assertEqual(set(told.ranks), set(range(max(told.ranks) + 1)))
            self.assertEqual(told.ranks_count, max(told.ranks) + 1)

    def test_ranks_rank_by_rank_and_box_by_box(self):
        for told in self.told:
            found = ask_of(told.text, *[rank(number) for number in range(-1, told.ranks_count + 1)])
            self.assertEqual((found[0], found[-1]), ([-2], [-2]))
            for number, answer in enumerate(found[1:-1]):
                standing = [k for k in range(told.boxes) if told.ranks[k] == number]
                self.assertEqual(answer, [len(standing)] + standing)
                self.assertGreater(answer[0], 0)
            found = ask_of(told.text, *[box(k) for k in range(told.boxes)])
            self.assertEqual([answer[0] for answer in found], told.ranks)

    def test_parts(self):
        for told in self.told:
            far = distances(told.boxes, told.edges + [arc[::-1] for arc in told.edges])
            least = [min([k] + [other for other in range(told.boxes) if far[k][other] is not None])
                     for k in range(told.boxes)]
            self.assertEqual(told.parts, [len(set(least))] + least)

    def test_5_ways_lead_there_and_none_is_shorter(self):
        for told in self.told:
            far = distances(told.boxes, told.arcs)
            for number, (begin, end) in enumerate(told.edges):
                boxes = told.circles[number][1:]
                self.assertEqual(told.circles[number][0], len(boxes))
                if far[end][begin] is None:
                    self.assertEqual(boxes, [])
                else:
                    self.assertEqual((boxes[0], boxes[-1], len(boxes)), (end, begin, far[end][begin] + 1))
                    self.assertLessEqual(set(zip(boxes, boxes[1:])), set(told.arcs))

    def test_5_first_one_of_the_shortest(self):
        for told in self.told:
            for number, (begin, end) in enumerate(told.edges):
                if told.circles[number] != [0]:
                    self.assertEqual(told.circles[number][1:], self.first_ways(told.arcs, end)[begin])

    def test_5_ways_from_box_to_box(self):
        for told in self.told:
            far = distances(told.boxes, told.down)
            for start, goal in itertools.product(range(told.boxes), repeat=2):
                answer = told.ways[start][goal]
                if start == goal:
                    self.assertEqual(answer, [1, start])
                elif far[start][goal] is None:
                    self.assertEqual(answer, [0])
                else:
                    boxes = answer[1:]
                    self.assertEqual(answer[0], len(boxes))
                    self.assertEqual((boxes[0], boxes[-1], len(boxes)), (start, goal, far[start][goal] + 1))
                    self.assertLessEqual(set(zip(boxes, boxes[1:])), set(told.down))

    def test_5_first_one_of_the_shortest_from_box_to_box(self):
        for told in self.told:
            for start in range(told.boxes):
                first = self.first_ways(told.down, start)
                for goal in range(told.boxes):
                    boxes = first.get(goal, [])
                    self.assertEqual(told.ways[start][goal], [len(boxes)] + boxes)

    def first_ways(self, arcs, start):
        """For each box that is come to the way there; ways are kept whole, none shorter than those before it."""
        ways = [[start]]
        met = {start}
        for boxes in ways:
            for begin, end in arcs:
                if begin == boxes[-1] and end not in met:
                    met.add(end)
                    ways.append(boxes + [end])
        return {boxes[-1]: boxes for boxes in ways}
