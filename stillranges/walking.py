"""Walks of bundles. Bundles and numbers at the beginning are trusted to be some."""

from stillranges.bundles import CALL, part_as_program
from stillranges.moving import move_goes, state_after

BACK = "back"


def _stand_back(bundle, stand):
    """The stand behind a going back, None if one can't."""
    calls, part, place, numbers = stand
    if not calls or place != bundle[2][part][0] - 1:
        return None
    caller, step = calls[-1]
    _, target, _ = bundle[2][caller][1][step]
    return (calls[:-1], caller, target, list(numbers))


def _stand_behind(bundle, stand, move):
    """The stand behind any value, None if it is no move that can be made."""
    if isinstance(move, str):
        return _stand_back(bundle, stand) if move == BACK else None
    calls, part, place, numbers = stand
    program = part_as_program(bundle, part)
    if not move_goes(program, (place, numbers), move):
        return None
    _, _, deed = program[3][move[0]]
    if deed[0] == CALL:
        return ((*calls, (part, move[0])), deed[1], 0, list(numbers))
    return (calls, part, *state_after(program, (place, numbers), move))


def walk_stands(bundle, numbers, value):
    """The stands of a walk that begins with some numbers, None if the value is none."""
    if not isinstance(value, list):
        return None
    stands = [((), 0, 0, list(numbers))]
    for move in value:
        stand = _stand_behind(bundle, stands[-1], move)
        if stand is None:
            return None
        stands.append(stand)
    return stands
