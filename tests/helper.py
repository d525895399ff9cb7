"""What the tests share: calls as they are handed in, and answers call by call."""

from boxranks.diagrams import answers

SHOWN = [1]
SIZES = [2]
TURNED = [5]
RANKS = [7]
LENGTHS = [9]
PARTS = [11]
GREEDY = [12]
FAR = 10 ** 18

CYCLE = (
    "box A ; box B ; box C ; box D ; edge A -> B ; edge B -> C ; edge C -> A : back ; "
    "edge A -> D ; edge D -> C ; edge A -> C ;"
)
SLACK = "box P ; box Q ; box R ; box S ; edge P -> Q ; edge Q -> R ; edge S -> R ;"


def bytes_of(text):
    """A text's bytes; a list of bytes stays one."""
    return list(text) if isinstance(text, list) else list(text.encode("latin-1"))


def load(text):
    row = bytes_of(text)
    return [0, len(row)] + row


def box(number):
    return [3, number]


def edge(number):
    return [4, number]


def circle(number):
    return [6, number]


def rank(number):
    return [8, number]


def way(start, goal):
    return [10, start, goal]


def split(told):
    """The answers in a list given back, one list for each call."""
    found = []
    at = 0
    while at < len(told):
        found.append(told[at + 1:at + 1 + told[at]])
        at = at + 1 + told[at]
    if at != len(told):
        raise AssertionError("the last answer is cut off")
    return found


def ask(*calls):
    """The answers to calls on one new object."""
    found = split(answers([number for call in calls for number in call]))
    if len(found) != len(calls):
        raise AssertionError("as many answers as calls")
    return found


def ask_of(text, *calls):
    """The answers to calls behind a load that has to go well."""
    found = ask(load(text), *calls)
    if found[0][0] != 1:
        raise AssertionError(f"not loaded: {text!r}: {found[0]}")
    return found[1:]


def ranks_of(text, boxes):
    """The ranks of so many boxes, which box and ranks have to tell alike."""
    told, *found = ask_of(text, RANKS, *[box(number) for number in range(boxes)])
    ranks = [answer[0] for answer in found]
    if told != [len(set(ranks))] + ranks:
        raise AssertionError(f"ranks {told}, box by box {ranks}")
    return ranks


def turned_in(text):
    return ask_of(text, TURNED)[0]


def named_boxes(many):
    """So many boxes, named B0, B1 .."""
    return "".join(f"box B{number};" for number in range(many))


class Numbers:
    """Numbers that look thrown by dice, but are the same on each run and each Python."""

    def __init__(self, seed):
        self.state = seed * 2654435761 + 12345

    def below(self, bound):
        self.state = (self.state * 6364136223846793005 + 1442695040888963407) % 2 ** 64
        return (self.state >> 33) % bound


def thrown_arcs(dice, boxes, many):
    """So many arcs between different boxes."""
    arcs = []
    for _ in range(many):
        begin = dice.below(boxes)
        arcs.append((begin, (begin + 1 + dice.below(boxes - 1)) % boxes))
    return arcs


def thrown_order(dice, boxes):
    """For each box its place in an order of all boxes."""
    order = []
    for number in range(boxes):
        order.insert(dice.below(number + 1), number)
    return order


def thrown_counts(dice, seed):
    """How many boxes, edges and wishes: each tenth time as many as there may be, each fifth time no wish."""
    if seed % 10 == 9:
        return 24, 40, 16
    boxes = 2 + dice.below(7 if seed % 3 else 23)
    edges = dice.below(13 if seed % 2 else 41)
    return boxes, edges, 0 if seed % 5 == 0 else dice.below(5 if seed % 4 else 17)


def thrown_diagram(seed):
    """Boxes, edges and wishes of a diagram; the wishes close no circle, as they all keep to one order of the boxes.

    All but few edges of each third diagram keep to it too, so that large diagrams with few circles are among them.
    """
    dice = Numbers(seed)
    boxes, edges, wishes = thrown_counts(dice, seed)
    order = thrown_order(dice, boxes)
    arcs = thrown_arcs(dice, boxes, edges + wishes)
    ordered = [arc if order[arc[0]] < order[arc[1]] else arc[::-1] for arc in arcs]
    if seed % 3 == 0:
        arcs = [arcs[k] if dice.below(20) == 0 else ordered[k] for k in range(len(arcs))]
    return boxes, arcs[:edges], ordered[edges:]


def written(boxes, edges, wishes):
    """The text of a diagram of boxes B0, B1 .."""
    told = [f"edge B{begin}->B{end};" for begin, end in edges]
    told = told + [f"above B{upper} B{lower};" for upper, lower in wishes]
    return named_boxes(boxes) + "".join(told)
