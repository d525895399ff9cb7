"""On which ranks boxes stand. All edges and wishes given here go down, without a circle."""


def box_ranks(first_ranks, edges, wishes):
    """Each box's rank, where the ranks by longest ways are known."""
    return without_empty_ranks(moved_ranks(first_ranks, edges, wishes))


def longest_ranks(boxes, arcs):
    """For each box the greatest number of arcs on a way that ends there."""
    ranks = [0] * boxes
    changed = True
    while changed:
        changed = False
        for begin, end in arcs:
            if ranks[end] <= ranks[begin]:
                ranks[end] = ranks[begin] + 1
                changed = True
    return ranks


def moved_ranks(first_ranks, edges, wishes):
    """The ranks when boxes have been moved until none moves any more."""
    ranks = list(first_ranks)
    boxes = len(first_ranks)
    surplus = edges_out_less_in(boxes, edges)
    arcs = edges + wishes
    moved = True
    while moved:
        moved = False
        for box in range(boxes):
            rank = rank_moved_to(box, surplus[box], ranks, arcs)
            if rank != ranks[box]:
                ranks[box] = rank
                moved = True
    return ranks


def edges_out_less_in(boxes, edges):
    """For each box how many edges go out of it, less how many come in."""
    surplus = [0] * boxes
    for begin, end in edges:
        surplus[begin] = surplus[begin] + 1
        surplus[end] = surplus[end] - 1
    return surplus


def rank_moved_to(box, surplus, ranks, arcs):
    """The rank to which a box goes when it is its turn."""
    if surplus > 0:
        return min([ranks[arc[1]] for arc in arcs if arc[0] == box]) - 1
    if surplus < 0:
        return max([ranks[arc[0]] for arc in arcs if arc[1] == box]) + 1
    return ranks[box]


def without_empty_ranks(ranks):
    """The ranks when those on which no box stands are taken out."""
    used = sorted(set(ranks))
    return [used.index(rank) for rank in ranks]


def edge_length(edge, ranks):
    """How many ranks an edge goes down."""
    return ranks[edge[1]] - ranks[edge[0]]


def lengths_together(edges, ranks):
    """The lengths of all edges together."""
    return sum([edge_length(edge, ranks) for edge in edges])
