"""What a diagram's tokens tell, before the names in it are looked up."""

from boxranks.faults import Fault
from boxranks.tokens import END, NAME, NUMBER, number_spelled

NOT_ALLOWED = 3
TOO_MANY = 4
OUT_OF_BOUNDS = 7

MOST_BOXES = 24
MOST_EDGES = 40
MOST_WISHES = 16

WIDTH_BESIDE_NAME = 4
LEAST_BESIDE_NAME = 2
GREATEST_WIDTH = 30
LEAST_HEIGHT = 3
GREATEST_HEIGHT = 9


class Draft:
    """Boxes as (name, width, height), edges as (name, name, label's bytes), wishes as (name, name).

    The names are tokens still: faults that show later need their places.
    """

    def __init__(self):
        self.boxes = []
        self.edges = []
        self.wishes = []


class Reader:
    """Goes through tokens from left to right."""

    def __init__(self, tokens):
        self.tokens = tokens
        self.at = 0

    def sees(self, kind):
        """Whether the token that is to be read is of a kind."""
        return self.tokens[self.at].kind == kind

    def refuse(self, code):
        """Raise a fault at the token that is to be read."""
        raise Fault(code, self.tokens[self.at].place)

    def take(self, kind):
        """Read one token, which has to be of a kind."""
        if not self.sees(kind):
            self.refuse(NOT_ALLOWED)
        token = self.tokens[self.at]
        self.at = self.at + 1
        return token

    def take_word(self, word, before, most):
        """Read the word that begins one more of a sort of which there are some before, and may be so many."""
        if before == most:
            self.refuse(TOO_MANY)
        self.take(word)

    def take_number(self, least, greatest):
        """Read a number that has to be within bounds."""
        token = self.take(NUMBER)
        number = number_spelled(token.spelling)
        if number < least or number > greatest:
            raise Fault(OUT_OF_BOUNDS, token.place)
        return number


def draft_of(tokens):
    """The draft of a diagram that has these tokens."""
    reader = Reader(tokens)
    draft = Draft()
    while not reader.sees(END):
        if reader.sees("box"):
            reader.take_word("box", len(draft.boxes), MOST_BOXES)
            draft.boxes.append(box_read(reader))
        elif reader.sees("edge"):
            reader.take_word("edge", len(draft.edges), MOST_EDGES)
            draft.edges.append(edge_read(reader))
        elif reader.sees("above"):
            reader.take_word("above", len(draft.wishes), MOST_WISHES)
            draft.wishes.append(wish_read(reader))
        else:
            reader.refuse(NOT_ALLOWED)
    return draft


def box_read(reader):
    """A box, read from behind its word."""
    name = reader.take(NAME)
    width = len(name.spelling) + WIDTH_BESIDE_NAME
    height = LEAST_HEIGHT
    if reader.sees(NUMBER):
        width = reader.take_number(len(name.spelling) + LEAST_BESIDE_NAME, GREATEST_WIDTH)
        height = reader.take_number(LEAST_HEIGHT, GREATEST_HEIGHT)
    reader.take(";")
    return (name, width, height)


def edge_read(reader):
    """An edge, read from behind its word; its label is empty if it has none."""
    begin = reader.take(NAME)
    reader.take("->")
    end = reader.take(NAME)
    label = ()
    if reader.sees(":"):
        reader.take(":")
        label = reader.take(NAME).spelling
    reader.take(";")
    return (begin, end, label)


def wish_read(reader):
    """A wish, read from behind its word."""
    upper = reader.take(NAME)
    lower = reader.take(NAME)
    reader.take(";")
    return (upper, lower)
