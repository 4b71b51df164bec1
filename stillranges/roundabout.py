"""The ways between reached states, and the rings among them. Programs are trusted to be some.

A node is the key of a state (see exploring) or what an input leaves of one: from there a way leads to the key with
each number that comes in. So an input of many numbers needs few ways, however many states it is done at.
"""

from stillranges.circling import ring_followed
from stillranges.exploring import key_of, left_by_input, run_found
from stillranges.moving import move_goes, state_after, step_goes


def _is_key(node):
    return len(node) == 2


def _nodes_behind_input(program, node):
    step, ahead, behind = node
    _, target, deed = program[3][step]
    low, high = deed[2]
    return [(target, (*ahead, number, *behind)) for number in range(low, high + 1)]


def _nodes_behind(program, node):
    if not _is_key(node):
        return _nodes_behind_input(program, node)
    nodes = []
    for step in range(len(program[3])):
        if step_goes(program, node, step):
            if program[3][step][2][0] == "input":
                nodes.append(left_by_input(program, node, step))
            else:
                nodes.append(key_of(state_after(program, node, (step, None))))
    return nodes


def ways_between(program, found):
    """For each node, those of what is found among them, the list of the nodes to which ways lead from it."""
    ways = {}
    waiting = list(found)
    while waiting:
        node = waiting.pop()
        if node not in ways:
            ways[node] = _nodes_behind(program, node)
            waiting.extend(ways[node])
    return ways


def _ways_to(ways):
    """How many ways lead to each node."""
    many = {node: 0 for node in ways}
    for nodes in ways.values():
        for node in nodes:
            many[node] += 1
    return many


def farthest_without_rings(ways):
    """The greatest number of moves to each node to which no way leads from a ring."""
    left = _ways_to(ways)
    waiting = [node for node in ways if left[node] == 0]
    far = {node: 0 for node in ways}
    farthest = {}
    while waiting:
        node = waiting.pop()
        farthest[node] = far[node]
        # To what an input leaves and on to a state is one move.
        moves = far[node] + 1 if _is_key(node) else far[node]
        for behind in ways[node]:
            far[behind] = max(far[behind], moves)
            left[behind] -= 1
            if left[behind] == 0:
                waiting.append(behind)
    return farthest


def _keys_round(ways):
    """The keys of a ring, in order, [] if there is none."""
    clear = farthest_without_rings(ways)
    # Each node that is not clear has a way to it from another such one, or from itself, and leads to such ones alone.
    ahead = {}
    for node, nodes in ways.items():
        for behind in nodes:
            if node not in clear:
                ahead[behind] = node
    if not ahead:
        return []
    ring = ring_followed(list(ahead)[0], ahead, len(ahead))
    return [node for node in ring[::-1] if _is_key(node)]


def _move_between(program, key, behind):
    """A move from a state to another one, None if there is none."""
    for step in range(len(program[3])):
        deed = program[3][step][2]
        number = behind[1][program[0].index(deed[1])] if deed[0] == "input" else None
        move = (step, number)
        if move_goes(program, key, move) and key_of(state_after(program, key, move)) == behind:
            return move
    return None


def round_found(program, found):
    """A round, None if there is none: a run to a state, and moves that lead back to it."""
    keys = _keys_round(ways_between(program, found))
    if not keys:
        return None
    moves = [_move_between(program, key, behind) for key, behind in zip(keys, keys[1:] + keys[:1])]
    return (run_found(found, keys[0]), moves)


def most_moves_of(program, found):
    """The greatest number of moves of a run, None if some run can be gone on for ever."""
    ways = ways_between(program, found)
    farthest = farthest_without_rings(ways)
    return max(list(farthest.values())) if len(farthest) == len(ways) else None
