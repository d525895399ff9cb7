"""The calls on one object, which holds a diagram or none, and their answers."""

from boxranks.callforms import BOX, CIRCLE, EDGE, LENGTHS, LOAD, PARTS, RANK, RANKS, SHOWN, SIZES, TURNED, calls_read
from boxranks.faults import Fault
from boxranks.parts import least_together
from boxranks.ranking import edge_length, lengths_together
from boxranks.shapes import diagram_of, one_form
from boxranks.ways import first_way

NO_DIAGRAM = -1
NO_SUCH = -2


class Holder:
    """The object on which calls are made."""

    def __init__(self):
        self.diagram = None

    def answer(self, call, given):
        """What is answered to a call, number by number."""
        if call == LOAD:
            return self.load(given)
        if self.diagram is None:
            return [NO_DIAGRAM]
        return answer_of(self.diagram, call, given)

    def load(self, text):
        """Hold the diagram that a text is; if it is none, tell its fault and hold what was held."""
        try:
            diagram = diagram_of(text)
        except Fault as fault:
            return [0, fault.code, fault.place]
        self.diagram = diagram
        return [1, len(diagram.boxes), len(diagram.edges), len(diagram.wishes)]


def answers(calls):
    """For each call, in order, how many numbers are answered, then they."""
    holder = Holder()
    told = []
    for call, given in calls_read(calls):
        answer = holder.answer(call, given)
        told.append(len(answer))
        told.extend(answer)
    return told


def answer_of(diagram, call, given):
    """What a diagram answers to a call other than load."""
    if len(given) == 0:
        return answer_of_all(diagram, call)
    if call == BOX:
        return box_answer(diagram, given[0])
    if call == EDGE:
        return edge_answer(diagram, given[0])
    if call == CIRCLE:
        return circle_answer(diagram, given[0])
    if call == RANK:
        return rank_answer(diagram, given[0])
    return way_answer(diagram, given[0], given[1])


def answer_of_all(diagram, call):
    """What a diagram answers to a call with which no number is given."""
    if call == SHOWN:
        return counted(one_form(diagram))
    if call == SIZES:
        return [len(diagram.boxes), len(diagram.edges), len(diagram.wishes), len(diagram.circling)]
    if call == TURNED:
        return counted(diagram.turned) + [1 if diagram.is_least else 0]
    if call == RANKS:
        return ranks_answer(diagram)
    if call == LENGTHS:
        return lengths_answer(diagram)
    if call == PARTS:
        return parts_answer(diagram)
    return greedy_answer(diagram)


def counted(told):
    """Bytes or numbers as they stand in an answer: how many, then they."""
    return [len(told)] + list(told)


def is_number_of(number, things):
    """Whether there is such a one among numbered things."""
    return 0 <= number < len(things)


def box_answer(diagram, number):
    """A box's rank, how wide and how high it is, its name."""
    if not is_number_of(number, diagram.boxes):
        return [NO_SUCH]
    box = diagram.boxes[number]
    return [diagram.ranks[number], box[1], box[2]] + counted(box[0])


def edge_answer(diagram, number):
    """An edge's boxes as told, whether it is turned, its length, its label."""
    if not is_number_of(number, diagram.edges):
        return [NO_SUCH]
    told = diagram.edges[number]
    turned = 1 if number in diagram.turned else 0
    length = edge_length(diagram.down[number], diagram.ranks)
    return [told[0], told[1], turned, length] + counted(diagram.labels[number])


def circle_answer(diagram, number):
    """The first shortest way from an edge's end back to its beginning, along edges as told and wishes."""
    if not is_number_of(number, diagram.edges):
        return [NO_SUCH]
    edge = diagram.edges[number]
    return counted(first_way(diagram.edges + diagram.wishes, edge[1], edge[0]))


def ranks_answer(diagram):
    """How many ranks there are, and each box's."""
    return [len(set(diagram.ranks))] + diagram.ranks


def rank_answer(diagram, number):
    """The boxes that stand on a rank."""
    standing = [box for box, rank in enumerate(diagram.ranks) if rank == number]
    # No rank is empty, so a number at which no box stands is no rank.
    if len(standing) == 0:
        return [NO_SUCH]
    return counted(standing)


def lengths_answer(diagram):
    """The lengths of all edges together, now and before boxes were moved."""
    return [lengths_together(diagram.down, diagram.ranks), lengths_together(diagram.down, diagram.first_ranks)]


def way_answer(diagram, start, goal):
    """The first shortest way from a box to another one, along edges as they go down."""
    if not is_number_of(start, diagram.boxes):
        return [NO_SUCH]
    if not is_number_of(goal, diagram.boxes):
        return [NO_SUCH]
    return counted(first_way(diagram.down, start, goal))


def parts_answer(diagram):
    """How many parts there are, and for each box the least number of a box in its part."""
    least = least_together(len(diagram.boxes), diagram.edges)
    return [len(set(least))] + least


def greedy_answer(diagram):
    """The edges that are not kept, also where a least set is turned."""
    return counted(diagram.not_kept)
