"""Rings of plans. Programs, open steps and plans are trusted to be some."""

from stillranges.options import bounds_come_to, sides_at
from stillranges.plain import a_bound


def edges_of(program, opened, plan):
    """The dict of the tuples of a bound and of a bound that the plan's option leads it to, with the addends."""
    edges = {}
    for bound, option in zip(bounds_come_to(program, opened), plan):
        for behind, addend in sides_at(program, bound, option):
            # Two sides with one bound are those of a deed that reads it twice, and add the same.
            if behind is not None:
                edges[(bound, behind)] = addend
    return edges


def _pairs_round(ring):
    return list(zip(ring, ring[1:] + ring[:1]))


def a_ring(program, opened, plan, value):
    if not isinstance(value, list) or not value or not all([a_bound(program, bound) for bound in value]):
        return False
    if len(set(value)) != len(value):
        return False
    edges = edges_of(program, opened, plan)
    return all([pair in edges for pair in _pairs_round(value)])


def sum_round(program, opened, plan, ring):
    edges = edges_of(program, opened, plan)
    return sum([edges[pair] for pair in _pairs_round(ring)])


def _pass_over(edges, scale, far, ahead):
    """Goes over all edges once, and returns the last bound that is come to nearer, None if none is."""
    last = None
    for (bound, behind), addend in edges.items():
        reach = far[bound] + addend * scale - 1
        if reach < far[behind]:
            far[behind] = reach
            ahead[behind] = bound
            last = behind
    return last


def ring_ahead_of(bound, ahead, many):
    """The ring to which one comes that goes back from a bound, so many bounds being there at most."""
    for _ in range(many):
        bound = ahead[bound]
    ring = [bound]
    while ahead[ring[-1]] != bound:
        ring.append(ahead[ring[-1]])
    return ring[::-1]


def ring_not_above(program, opened, plan):
    """A ring whose sum is at most 0, None if there is none.

    With each addend taken `many` + 1 times and less by 1, a ring of at most `many` bounds sums to less than 0
    exactly if its sum is at most 0; and nearer and nearer ways without end are there exactly if such a ring is.
    """
    bounds = bounds_come_to(program, opened)
    many = len(bounds)
    edges = edges_of(program, opened, plan)
    far = {bound: 0 for bound in bounds}
    ahead = {}
    last = None
    for _ in range(many):
        last = _pass_over(edges, many + 1, far, ahead)
        if last is None:
            return None
    return ring_ahead_of(last, ahead, many)
