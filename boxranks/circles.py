"""Which edges stand on circles, and which are turned so that there is no circle."""

from boxranks.ways import leads

MOST_FOR_LEAST_SET = 10


def edges_on_circles(edges, wishes):
    """The numbers of the edges that stand on circles."""
    arcs = edges + wishes
    return [number for number, edge in enumerate(edges) if leads(arcs, edge[1], edge[0])]


def is_least_set_told(circling):
    """Whether so few edges stand on circles that a least set of them is turned."""
    return len(circling) <= MOST_FOR_LEAST_SET


def edges_not_kept(edges, wishes):
    """The numbers of the edges that close a circle with the wishes and the edges kept before them."""
    kept = list(wishes)
    not_kept = []
    for number, edge in enumerate(edges):
        if leads(kept, edge[1], edge[0]):
            not_kept.append(number)
        else:
            kept.append(edge)
    return not_kept


def least_set(edges, wishes, circling):
    """The first one of the least sets of edges without which there is no circle."""
    # Arcs that stand on no circle are left out: many sets are tried, and such arcs never matter.
    arcs = edges + wishes
    fixed = [wish for wish in wishes if leads(arcs, wish[1], wish[0])]
    tried = [[]]
    found = first_that_breaks(edges, fixed, circling, tried)
    while found is None:
        tried = one_larger(tried, circling)
        found = first_that_breaks(edges, fixed, circling, tried)
    return found


def first_that_breaks(edges, fixed, circling, tried):
    """The first of the sets without which there is no circle; None if there is no such one."""
    for chosen in tried:
        left = [edges[number] for number in circling if number not in chosen]
        if not has_circle(fixed + left):
            return chosen
    return None


def one_larger(tried, circling):
    """All sets with one number more, in order, if the sets given are all of their size in order."""
    larger = []
    for chosen in tried:
        for number in circling:
            if len(chosen) == 0 or number > chosen[-1]:
                larger.append(chosen + [number])
    return larger


def has_circle(arcs):
    """Whether there is a circle along these arcs."""
    # An arc that begins where none ends is on no circle; when there is none left of that sort, each arc that is
    # left has one before it, and going back along them one must come round.
    left = arcs
    before = len(left) + 1
    while len(left) < before:
        before = len(left)
        ends = {}
        for arc in left:
            ends[arc[1]] = True
        left = [arc for arc in left if arc[0] in ends]
    return len(left) > 0


def going_down(edges, turned):
    """The edges as they go down: those that are turned go the other way."""
    down = list(edges)
    for number in turned:
        down[number] = (edges[number][1], edges[number][0])
    return down
