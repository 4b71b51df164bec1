"""What refuses an argument that is not a run, or not a width to run with."""

from stillranges.errors import InvalidRun, InvalidWidth
from stillranges.moving import run_states
from stillranges.needs import need_program
from stillranges.plain import a_whole


def needed_states(program, run):
    """The states of what has to be a run."""
    states = run_states(program, run)
    if states is None:
        raise InvalidRun(run)
    return states


def need_width(width):
    if not a_whole(width) or width < 1:
        raise InvalidWidth(width)


def need_program_and_width(program, width):
    need_program(program)
    need_width(width)
