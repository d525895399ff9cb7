"""The calls: a diagram or none, refusals, and how calls are handed in and answers given back."""

import contextlib
import io
import sys
import unittest

from boxranks.callforms import calls_read
from boxranks.diagrams import answers
from helper import (CYCLE, FAR, GREEDY, LENGTHS, PARTS, RANKS, SHOWN, SIZES, SLACK, TURNED, ask, ask_of, box, bytes_of,
                    circle, edge, load, named_boxes, rank, way)

EVERY_CALL_BUT_LOAD = [[1], [2], [3, 0], [4, 0], [5], [6, 0], [7], [8, 0], [9], [10, 0, 0], [11], [12]]
FAR_CALLS = [[3, FAR], [3, -FAR], [4, FAR], [4, -FAR], [6, FAR], [6, -1], [8, FAR], [8, -FAR], [8, -1],
             [10, FAR, -FAR], [10, -1, FAR], [10, 0, FAR], [10, -FAR, 0]]
# A load, every call, refusals and a load that is refused.
MANY_CALLS = load(CYCLE) + sum(EVERY_CALL_BUT_LOAD + FAR_CALLS, []) + load("?") + edge(2) + way(0, 2)


class NoDiagram(unittest.TestCase):
    def test_every_call_ahead_of_the_first_load(self):
        calls = EVERY_CALL_BUT_LOAD + FAR_CALLS
        self.assertEqual(ask(*calls), [[-1]] * len(calls))

    def test_each_call_by_itself(self):
        for call in EVERY_CALL_BUT_LOAD + FAR_CALLS:
            self.assertEqual(answers(call), [1, -1])

    def test_behind_a_load_that_was_refused(self):
        for text, code, place in (("?", 2, 0), ("box", 3, 3), (" " * 4097, 1, 4096), ("box A;box A;", 5, 10)):
            found = ask(load(text), *EVERY_CALL_BUT_LOAD)
            self.assertEqual(found, [[0, code, place]] + [[-1]] * len(EVERY_CALL_BUT_LOAD))

    def test_empty_diagram_is_a_diagram(self):
        found = ask_of("", SHOWN, SIZES, box(0), edge(0), TURNED, circle(0))
        self.assertEqual(found, [[0], [0, 0, 0, 0], [-2], [-2], [0, 1], [-2]])
        found = ask_of("", RANKS, rank(0), LENGTHS, way(0, 0), PARTS, GREEDY)
        self.assertEqual(found, [[0], [-2], [0, 0], [-2], [0], [0]])
        self.assertEqual(ask_of(" # nothing", rank(-1), rank(1), rank(FAR), rank(-FAR), way(-1, 1)), [[-2]] * 5)


class NoSuch(unittest.TestCase):
    def test_numbers_that_there_are_not(self):
        for number in (4, 5, -1, -4, 24, FAR, -FAR, 2 ** 59):
            self.assertEqual(ask_of(CYCLE, box(number)), [[-2]])
        for number in (6, 7, -1, -6, 40, FAR, -FAR, 2 ** 59):
            self.assertEqual(ask_of(CYCLE, edge(number), circle(number)), [[-2], [-2]])

        for number in (3, 4, -1, -3, 24, FAR, -FAR, 2 ** 59):
            self.assertEqual(ask_of(CYCLE, rank(number)), [[-2]])

    def test_boxes_of_a_way_that_there_are_not(self):
        for number in (4, 5, -1, -4, 24, FAR, -FAR, 2 ** 59):
            found = ask_of(CYCLE, way(number, 0), way(0, number), way(number, number), way(number, -1), way(9, number))
            self.assertEqual(found, [[-2]] * 5)

    def test_last_ones_that_there_are(self):
        self.assertEqual(ask_of(CYCLE, box(3), edge(5), circle(5)), [[1, 5, 3, 1, 68], [0, 2, 0, 2, 0], [2, 2, 0]])
        self.assertEqual(ask_of(CYCLE, rank(2), way(3, 3), way(0, 3), way(3, 0)), [[1, 2], [1, 3], [2, 0, 3], [0]])

    def test_boxes_are_no_edges(self):
        text = "box A;box B;box C;edge A->B;above A C;above B C;"
        self.assertEqual(ask_of(text, edge(1), circle(1), box(2)), [[-2], [-2], [2, 5, 3, 1, 67]])

    def test_boxes_are_no_ranks_and_ranks_no_boxes(self):
        self.assertEqual(ask_of("box A;box B;box C;", rank(0), rank(1), way(2, 2)), [[3, 0, 1, 2], [-2], [1, 2]])
        self.assertEqual(ask_of("box A;box B;edge A->B;edge A->B;edge A->B;", rank(1), rank(2), way(0, 2)),
                         [[1, 1], [-2], [-2]])

    def test_refusal_changes_nothing(self):
        self.assertEqual(ask_of(CYCLE, box(9), SIZES, edge(-1), SIZES), [[-2], [4, 6, 0, 6], [-2], [4, 6, 0, 6]])
        self.assertEqual(ask_of(CYCLE, rank(3), RANKS, way(0, 4), RANKS), [[-2], [3, 0, 1, 2, 1]] * 2)


class Loads(unittest.TestCase):
    def test_worked_texts(self):
        found = ask(load(CYCLE), SIZES, TURNED, box(0), edge(2), circle(0), circle(5))
        self.assertEqual(found, [[1, 4, 6, 0], [4, 6, 0, 6], [1, 2, 1], [0, 5, 3, 1, 65],
                                 [2, 0, 1, 2, 4, 98, 97, 99, 107], [3, 1, 2, 0], [2, 2, 0]])
        self.assertEqual(ask(load(SLACK), box(3)), [[1, 4, 3, 0], [1, 5, 3, 1, 83]])

    def test_worked_texts_with_ranks_ways_and_parts(self):
        found = ask(load(CYCLE), GREEDY, RANKS, rank(1), LENGTHS, way(0, 2), way(1, 3), PARTS)
        self.assertEqual(found, [[1, 4, 6, 0], [1, 2], [3, 0, 1, 2, 1], [2, 1, 3], [8, 8], [2, 0, 2], [0],
                                 [1, 0, 0, 0, 0]])
        self.assertEqual(ask(load(SLACK), RANKS, LENGTHS), [[1, 4, 3, 0], [3, 0, 1, 2, 1], [3, 4]])

    def test_later_load_takes_the_place_of_an_earlier_one(self):
        found = ask(load(CYCLE), SIZES, load(SLACK), SIZES, TURNED, box(3), edge(2), circle(0), load(""), SIZES, SHOWN)
        self.assertEqual(found[1], [4, 6, 0, 6])
        self.assertEqual(found[3:8], [[4, 3, 0, 0], [0, 1], [1, 5, 3, 1, 83], [3, 2, 0, 1, 0], [0]])
        self.assertEqual(found[9:], [[0, 0, 0, 0], [0]])

    def test_every_call_behind_a_later_load(self):
        alone = ask_of("box A;box B;box C;edge B->A;edge A->B;", *(EVERY_CALL_BUT_LOAD + FAR_CALLS))
        for earlier in ("", CYCLE, SLACK, "?", named_boxes(24), "box A;box B;" + "edge A->B;edge B->A;" * 20):
            found = ask(load(earlier), *EVERY_CALL_BUT_LOAD, load("box A;box B;box C;edge B->A;edge A->B;"),
                        *(EVERY_CALL_BUT_LOAD + FAR_CALLS))
            self.assertEqual(found[len(EVERY_CALL_BUT_LOAD) + 2:], alone)
        self.assertEqual(alone[6:12], [[2, 0, 1, 0], [2, 0, 2], [2, 2], [1, 0], [2, 0, 0, 2], [1, 1]])

    def test_failed_load_changes_nothing(self):
        calls = [SHOWN, SIZES, TURNED, RANKS, LENGTHS, PARTS, GREEDY] + [box(number) for number in range(5)]
        calls = calls + [edge(number) for number in range(7)] + [circle(number) for number in range(7)]
        calls = calls + [rank(number) for number in range(4)]
        calls = calls + [way(start, goal) for start in range(5) for goal in range(5)]
        before = ask_of(CYCLE, *calls)
        for text in ("?", "box", "box X 1 1;", named_boxes(25), "box X;box X;", "edge X->Y;", "box X;edge X->X;",
                     "box X;box Y;above X Y;above Y X;", " " * 8192):
            found = ask(load(CYCLE), load(text), *calls)
            self.assertEqual(found[1][0], 0)
            self.assertEqual(len(found[1]), 3)
            self.assertEqual(found[2:], before)

    def test_calls_in_any_order_and_again(self):
        calls = [TURNED, circle(0), way(0, 2), GREEDY, box(0), SIZES, PARTS, edge(2), RANKS, SHOWN, LENGTHS, rank(1)]
        once = ask_of(CYCLE, *calls)
        self.assertEqual(ask_of(CYCLE, *(calls + calls[::-1])), once + once[::-1])


class Handed(unittest.TestCase):
    def test_counts_stand_ahead_of_answers(self):
        self.assertEqual(answers([2, 0, 6] + bytes_of("box A;") + [2, 3, 0, 3, 1]),
                         [1, -1, 4, 1, 1, 0, 0, 4, 1, 0, 0, 0, 5, 0, 5, 3, 1, 65, 1, -2])
        self.assertEqual(answers([0, 0]), [4, 1, 0, 0, 0])
        self.assertEqual(answers([0, 1, 33]), [3, 0, 2, 0])
        self.assertEqual(answers([0, 6] + bytes_of("box A;") + [7, 8, 0, 8, 1, 9, 10, 0, 0, 10, 0, 1, 11, 12]),
                         [4, 1, 1, 0, 0, 2, 1, 0, 2, 1, 0, 1, -2, 2, 0, 0, 2, 1, 0, 1, -2, 2, 1, 0, 1, 0])

    def test_form_of_all_calls(self):
        calls = [(0, bytes_of("box A;")), (1, []), (2, []), (3, [-1]), (4, [FAR]), (5, []), (6, [-FAR]), (7, []),
                 (8, [3]), (9, []), (10, [1, 2]), (11, []), (12, []), (0, []), (0, [5] * 8192), (2, [])]
        numbers = []
        for call, given in calls:
            numbers += [call] + ([len(given)] if call == 0 else []) + given
        self.assertEqual(calls_read(numbers), calls)

    def test_every_call_is_answered(self):
        for call in EVERY_CALL_BUT_LOAD:
            self.assertGreaterEqual(ask_of(CYCLE, call)[0][0], 0)

    def test_numbers_in_a_text_are_no_calls(self):
        self.assertEqual(ask(load([0, 3, 2]), SIZES), [[0, 2, 0], [-1]])
        self.assertEqual(ask(load([10] * 12), SIZES), [[1, 0, 0, 0], [0, 0, 0, 0]])

    def test_list_handed_in_stays_as_it_was(self):
        calls = list(MANY_CALLS)
        copy = list(calls)
        first = answers(calls)
        self.assertEqual(calls, copy)
        self.assertEqual(answers(calls), first)
        self.assertEqual(calls, copy)

    def test_not_changed_for_a_while_either(self):
        class Locked(list):
            def locked(self, *given):
                raise AssertionError("changed")

            __setitem__ = __delitem__ = __iadd__ = __imul__ = locked
            append = extend = insert = pop = remove = clear = sort = reverse = locked

        self.assertEqual(answers(Locked(MANY_CALLS)), answers(list(MANY_CALLS)))

    def test_nothing_is_kept_from_one_time_to_the_next(self):
        for call in EVERY_CALL_BUT_LOAD:
            first = answers(load(CYCLE) + call)
            self.assertEqual(answers(call), [1, -1])
            answers(load(SLACK) + call)
            self.assertEqual(answers(load(CYCLE) + call), first)

    def test_given_back_list_is_not_kept(self):
        calls = list(MANY_CALLS)
        first = answers(calls)
        copy = list(first)
        first.clear()
        self.assertEqual(answers(calls), copy)

    def test_whole_numbers_alone_are_given_back(self):
        calls = MANY_CALLS + load("box A;box B;" + "edge A->B;edge B->A;" * 6) + TURNED + edge(1) + GREEDY
        told = answers(calls)
        self.assertIs(type(told), list)
        self.assertEqual({type(number) for number in told}, {int})

    def test_nothing_is_printed_read_or_imported(self):
        out = io.StringIO()
        modules = set(sys.modules)
        with contextlib.redirect_stdout(out), contextlib.redirect_stderr(out):
            answers(list(MANY_CALLS))
        self.assertEqual(out.getvalue(), "")
        self.assertEqual(set(sys.modules), modules)


class Long(unittest.TestCase):
    def test_long_inputs_nest_no_calls(self):
        chain = named_boxes(24) + "".join(f"edge B{k}->B{k + 1};" for k in range(23)) + "edge B23->B0;"
        wishes = named_boxes(24) + "".join(f"above B{k} B{k + 1};" for k in range(16))
        longest = load(" " * 8192) + load("#" * 4096) + load("0" * 4096)
        calls = longest
        calls = calls + load(chain) + TURNED + circle(0) + RANKS + LENGTHS + way(1, 0) + PARTS + GREEDY
        calls = calls + load(wishes) + box(16)
        limit = sys.getrecursionlimit()
        depth = len(self.frames())
        sys.setrecursionlimit(depth + 25)
        try:
            told = answers(calls)
        finally:
            sys.setrecursionlimit(limit)
        self.assertEqual(told[:13], [3, 0, 1, 4096, 4, 1, 0, 0, 0, 3, 0, 2, 0])
        self.assertEqual(told[-7:], [16, 7, 3, 3] + bytes_of("B16"))

    def frames(self):
        found = []
        frame = sys._getframe()
        while frame is not None:
            found.append(frame)
            frame = frame.f_back
        return found

    def test_200_calls(self):
        found = ask(load(CYCLE), *([SHOWN] * 199))
        self.assertEqual(len(found), 200)
        self.assertEqual(found[1:], [found[1]] * 199)

    def test_many_loads(self):
        text = "box A;box B;above A B;" + "edge B->A;" * 10
        many = 17000 // (len(text) + 2)
        self.assertEqual(ask(*([load(text)] * many)), [[1, 2, 10, 1]] * many)
