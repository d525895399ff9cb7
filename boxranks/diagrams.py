"""The calls on one object, which holds a diagram or none, and their answers."""

from boxranks.callforms import BOX, CIRCLE, EDGE, LOAD, SHOWN, SIZES, TURNED, calls_read
from boxranks.circles import is_least_set_told
from boxranks.faults import Fault
from boxranks.shapes import diagram_of, one_form
from boxranks.ways import first_way

NO_DIAGRAM = -1
NO_SUCH = -2


class NotBuilt(NotImplementedError):
    """A call is asked for that the program does not answer yet."""


class Holder:
    """The object on which calls are made."""

    def __init__(self):
        self.diagram = None

    def answer(self, call, given):
        """What is answered to a call, number by number."""
        if call == LOAD:
            return self.load(given)
        if self.diagram is None:
            return [NO_DIAGRAM]
        return answer_of(self.diagram, call, given)

    def load(self, text):
        """Hold the diagram that a text is; if it is none, tell its fault and hold what was held."""
        try:
            diagram = diagram_of(text)
        except Fault as fault:
            return [0, fault.code, fault.place]
        self.diagram = diagram
        return [1, len(diagram.boxes), len(diagram.edges), len(diagram.wishes)]


def answers(calls):
    """For each call, in order, how many numbers are answered, then they."""
    holder = Holder()
    told = []
    for call, given in calls_read(calls):
        answer = holder.answer(call, given)
        told.append(len(answer))
        told.extend(answer)
    return told


def answer_of(diagram, call, given):
    """What a diagram answers to a call other than load."""
    if call == SHOWN:
        return as_text(one_form(diagram))
    if call == SIZES:
        return [len(diagram.boxes), len(diagram.edges), len(diagram.wishes), len(diagram.circling)]
    if call == BOX:
        return box_answer(diagram, given[0])
    if call == EDGE:
        return edge_answer(diagram, given[0])
    if call == TURNED:
        return turned_answer(diagram)
    if call == CIRCLE:
        return circle_answer(diagram, given[0])
    raise NotBuilt(f"call {call} is not built yet")


def as_text(spelling):
    """A text as it stands in an answer: how many bytes, then they."""
    return [len(spelling)] + list(spelling)


def is_number_of(number, things):
    """Whether there is such a one among numbered things."""
    return 0 <= number < len(things)


def box_answer(diagram, number):
    """A box's rank, how wide and how high it is, its name."""
    if not is_number_of(number, diagram.boxes):
        return [NO_SUCH]
    box = diagram.boxes[number]
    return [diagram.ranks[number], box[1], box[2]] + as_text(box[0])


def edge_answer(diagram, number):
    """An edge's boxes as told, whether it is turned, its length, its label."""
    if not is_number_of(number, diagram.edges):
        return [NO_SUCH]
    told = diagram.edges[number]
    down = diagram.down[number]
    turned = 1 if number in diagram.turned else 0
    length = diagram.ranks[down[1]] - diagram.ranks[down[0]]
    return [told[0], told[1], turned, length] + as_text(diagram.labels[number])


def turned_answer(diagram):
    """How many edges are turned, which, and whether they are a least set."""
    least = 1 if is_least_set_told(diagram.circling) else 0
    return [len(diagram.turned)] + diagram.turned + [least]


def circle_answer(diagram, number):
    """The first shortest way from an edge's end back to its beginning, along edges as told and wishes."""
    if not is_number_of(number, diagram.edges):
        return [NO_SUCH]
    edge = diagram.edges[number]
    way = first_way(diagram.edges + diagram.wishes, edge[1], edge[0])
    return [len(way)] + way
