"""Ways along arcs. An arc is a pair: the box where it begins, the box where it ends."""


def first_way(arcs, start, goal):
    """The boxes on the first shortest way from start to goal; empty if there is none."""
    came_from = {start: start}
    come_to = [start]
    at = 0
    while at < len(come_to) and goal not in came_from:
        here = come_to[at]
        for box in ends_of_arcs_from(arcs, here):
            if box not in came_from:
                came_from[box] = here
                come_to.append(box)
        at = at + 1
    if goal not in came_from:
        return []
    return way_walked(came_from, start, goal)


def ends_of_arcs_from(arcs, box):
    """Where the arcs that begin at a box end, in the order of the arcs."""
    return [arc[1] for arc in arcs if arc[0] == box]


def way_walked(came_from, start, goal):
    """The boxes from start to goal, if it is known of each from which one it was come to."""
    way = [goal]
    while way[-1] != start:
        way.append(came_from[way[-1]])
    way.reverse()
    return way


def leads(arcs, start, goal):
    """Whether some way leads from start to goal."""
    return len(first_way(arcs, start, goal)) > 0
