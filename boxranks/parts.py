"""Which boxes hang together by edges, whichever way they are gone."""


def least_together(boxes, edges):
    """For each of so many boxes the least number of a box that it hangs together with."""
    least = list(range(boxes))
    changed = True
    while changed:
        changed = False
        for begin, end in edges:
            if least[begin] != least[end]:
                lesser = min(least[begin], least[end])
                least[begin] = lesser
                least[end] = lesser
                changed = True
    return least
