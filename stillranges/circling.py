"""Rings of plans. Programs, open steps and plans are trusted to be some."""

from stillranges.options import bounds_come_to, sides_at
from stillranges.plain import a_bound


def edges_of(program, opened, plan):
    """The dict of the tuples of a bound and of a bound that the plan's option leads it to, with the addends."""
    edges = {}
    for bound, option in zip(bounds_come_to(program, opened), plan):
        for behind, addend in sides_at(program, bound, option):
            # Two sides with one bound are those of a deed that reads it twice, and add the same.
            if behind is not None:
                edges[(bound, behind)] = addend
    return edges


def _pairs_round(ring):
    return list(zip(ring, ring[1:] + ring[:1]))


def a_ring(program, opened, plan, value):
    if not isinstance(value, list) or not value or not all([a_bound(program, bound) for bound in value]):
        return False
    if len(set(value)) != len(value):
        return False
    edges = edges_of(program, opened, plan)
    return all([pair in edges for pair in _pairs_round(value)])


def sum_round(program, opened, plan, ring):
    edges = edges_of(program, opened, plan)
    return sum([edges[pair] for pair in _pairs_round(ring)])


def _pass_over(edges, scale, far, on):
    """Goes over all edges once, and returns the dict of the bounds that lie nearer now."""
    nearer = {}
    for (bound, behind), addend in edges.items():
        reach = far[behind] + addend * scale - 1
        if reach < far[bound]:
            far[bound] = reach
            on[bound] = behind
            nearer[bound] = True
    return nearer


def _always_nearer(edges, bounds, on):
    """The dict of the bounds that lie nearer still behind as many passes as there are bounds, and on which way.

    With each addend taken `many` + 1 times and less by 1, a ring of at most `many` bounds sums to less than 0
    exactly if its sum is at most 0. So these bounds lead to such rings alone, and at least one of each ring is there.
    """
    far = {bound: 0 for bound in bounds}
    nearer = {}
    for _ in range(len(bounds)):
        nearer = _pass_over(edges, len(bounds) + 1, far, on)
        if not nearer:
            return nearer
    return nearer


def ring_followed(node, on, many):
    """The ring to which one comes from a node, going on from each to the next one, where there are so many at most."""
    for _ in range(many):
        node = on[node]
    ring = [node]
    while on[ring[-1]] != node:
        ring.append(on[ring[-1]])
    return ring


def ring_not_above(program, opened, plan):
    """A ring whose sum is at most 0, None if there is none."""
    bounds = bounds_come_to(program, opened)
    on = {}
    nearer = _always_nearer(edges_of(program, opened, plan), bounds, on)
    return ring_followed(list(nearer)[-1], on, len(bounds)) if nearer else None


def led_to_rings_not_above(program, opened, plan):
    """The dict of the bounds from which a plan can lead to a ring whose sum is at most 0."""
    bounds = bounds_come_to(program, opened)
    edges = edges_of(program, opened, plan)
    ahead = {bound: [] for bound in bounds}
    for bound, behind in edges:
        ahead[behind].append(bound)
    led = _always_nearer(edges, bounds, {})
    waiting = list(led)
    while waiting:
        behind = waiting.pop()
        for bound in ahead[behind]:
            if bound not in led:
                led[bound] = True
                waiting.append(bound)
    return led
