"""The form in which calls are handed in, one behind another."""

LOAD = 0
SHOWN = 1
SIZES = 2
BOX = 3
EDGE = 4
TURNED = 5
CIRCLE = 6
RANKS = 7
RANK = 8
LENGTHS = 9
WAY = 10
PARTS = 11
GREEDY = 12

# How many whole numbers stand behind each call's number: load (which has a row in their place), shown, sizes, box,
# edge, turned, circle, ranks, rank, lengths, way, parts, greedy.
WHOLE_NUMBERS = (0, 0, 0, 1, 1, 0, 1, 0, 1, 0, 2, 0, 0)


def calls_read(numbers):
    """The calls in a list of numbers, each as its number and a list: load's text, or the call's whole numbers."""
    calls = []
    at = 0
    while at < len(numbers):
        begin = given_begin(numbers, at)
        end = begin + how_many_given(numbers, at)
        calls.append((numbers[at], numbers[begin:end]))
        at = end
    return calls


def given_begin(numbers, at):
    """Where that begins which is given with the call at an offset."""
    if numbers[at] == LOAD:
        return at + 2
    return at + 1


def how_many_given(numbers, at):
    """How many numbers are given with the call at an offset."""
    if numbers[at] == LOAD:
        return numbers[at + 1]
    return WHOLE_NUMBERS[numbers[at]]
