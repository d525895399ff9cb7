"""Diagrams as they are held: boxes, edges and wishes by their numbers, and what follows from them."""

from boxranks.circles import edges_not_kept, edges_on_circles, going_down, is_least_set_told, least_set
from boxranks.drafts import draft_of
from boxranks.faults import Fault
from boxranks.ranking import box_ranks, longest_ranks
from boxranks.tokens import spelled, tokens_of
from boxranks.ways import leads

TOO_LONG = 1
NAME_TWICE = 5
NO_SUCH_NAME = 6
TO_ITSELF = 8
WISHES_IN_CIRCLE = 9

MOST_BYTES = 4096


class Diagram:
    """A diagram: boxes as (name, width, height), edges and wishes as arcs, each edge's label or an empty one."""

    def __init__(self, boxes, edges, labels, wishes):
        self.boxes = boxes
        self.edges = edges
        self.labels = labels
        self.wishes = wishes
        self.circling = edges_on_circles(edges, wishes)
        self.not_kept = edges_not_kept(edges, wishes)
        self.is_least = is_least_set_told(self.circling)
        self.turned = least_set(edges, wishes, self.circling) if self.is_least else self.not_kept
        self.down = going_down(edges, self.turned)
        self.first_ranks = longest_ranks(len(boxes), self.down + wishes)
        self.ranks = box_ranks(self.first_ranks, self.down, wishes)


def diagram_of(text):
    """The diagram that a text is; a Fault is raised if it is none."""
    if len(text) > MOST_BYTES:
        raise Fault(TOO_LONG, MOST_BYTES)
    draft = draft_of(tokens_of(text))
    numbers = numbers_of_names(draft.boxes)
    pairs = [(edge[0], edge[1]) for edge in draft.edges]
    refuse_unknown_names(pairs + draft.wishes, numbers)
    refuse_loops(pairs + draft.wishes)
    wishes = arcs_of(draft.wishes, numbers)
    refuse_circle_of_wishes(draft.wishes, wishes)
    boxes = [(box[0].spelling, box[1], box[2]) for box in draft.boxes]
    return Diagram(boxes, arcs_of(pairs, numbers), [edge[2] for edge in draft.edges], wishes)


def numbers_of_names(boxes):
    """Each box's number by its name."""
    numbers = {}
    for number, box in enumerate(boxes):
        if box[0].spelling in numbers:
            raise Fault(NAME_TWICE, box[0].place)
        numbers[box[0].spelling] = number
    return numbers


def refuse_unknown_names(pairs, numbers):
    """Raise a fault if there is a name in these pairs that no box has."""
    for pair in pairs:
        for name in pair:
            if name.spelling not in numbers:
                raise Fault(NO_SUCH_NAME, name.place)


def refuse_loops(pairs):
    """Raise a fault if one of these pairs leads from a box to itself."""
    for first, second in pairs:
        if first.spelling == second.spelling:
            raise Fault(TO_ITSELF, second.place)


def refuse_circle_of_wishes(pairs, wishes):
    """Raise a fault if a wish closes a circle with those before it."""
    for number, wish in enumerate(wishes):
        if leads(wishes[:number], wish[1], wish[0]):
            raise Fault(WISHES_IN_CIRCLE, pairs[number][0].place)


def arcs_of(pairs, numbers):
    """The arcs that pairs of names tell."""
    return [(numbers[first.spelling], numbers[second.spelling]) for first, second in pairs]


def one_form(diagram):
    """The bytes of a diagram's one form."""
    shown = []
    for name, width, height in diagram.boxes:
        shown.extend(line_of([spelled("box"), name, spelled(str(width)), spelled(str(height))]))
    for number, edge in enumerate(diagram.edges):
        shown.extend(line_of(edge_tokens(diagram, edge, diagram.labels[number])))
    for upper, lower in diagram.wishes:
        shown.extend(line_of([spelled("above"), diagram.boxes[upper][0], diagram.boxes[lower][0]]))
    return shown


def edge_tokens(diagram, edge, label):
    """The bytes of each token of an edge in the one form, up to the sign that ends it."""
    tokens = [spelled("edge"), diagram.boxes[edge[0]][0], spelled("->"), diagram.boxes[edge[1]][0]]
    if len(label) > 0:
        tokens.extend([spelled(":"), label])
    return tokens


def line_of(tokens):
    """A line of the one form: tokens with a blank behind each, and the sign that ends them."""
    line = []
    for token in tokens:
        line.extend(token + spelled(" "))
    line.extend(spelled(";\n"))
    return line
