"""Papers that show values to be nowhere too wide, and proofs of tables made of them.

Programs and open steps are trusted to be some, systems are those of options.system_of, and values are dicts of bounds.
"""

from stillranges.opening import first_table
from stillranges.options import an_option, reaches_in, system_of, worths_of
from stillranges.plain import a_count, a_table, a_whole, places_come_to, some_open
from stillranges.rows import row_by_step


def _is_higher(height, rank, other, other_rank):
    """Whether a height and rank of a side bear others: above, or as high and of a lesser rank."""
    return height > other or (height == other and rank < other_rank)


def _side_bears(side, value, entry, values, entries):
    """Whether a side bears the entry, a height and a rank, of a bound of some value."""
    behind, addend = side
    height, rank = entry
    if behind is None:
        return addend is None or (value is not None and addend >= height)
    if value is not None and values[behind] is None:
        return True
    if value is None and values[behind] is not None:
        return False
    side_height, side_rank = entries[behind]
    return _is_higher(side_height + addend, side_rank, height, rank)


def _an_entry(program, opened, bound, value, entry):
    """Whether any value is an option of a bound, a height that suits its value, and a rank."""
    if not isinstance(entry, tuple) or len(entry) != 3 or not an_option(program, opened, bound, entry[0]):
        return False
    _, height, rank = entry
    return a_whole(height) and a_count(rank) and (value is None or height == value)


def a_paper(program, opened, values, paper):
    """Whether any value is a paper of some values."""
    system = system_of(program, opened)
    if not isinstance(paper, list) or len(paper) != len(system):
        return False
    if not all([_an_entry(program, opened, bound, values[bound], entry) for bound, entry in zip(system, paper)]):
        return False
    entries = {bound: (height, rank) for bound, (_, height, rank) in zip(system, paper)}
    for bound, (option, _, _) in zip(system, paper):
        for side in system[bound][option]:
            if not _side_bears(side, values[bound], entries[bound], values, entries):
                return False
    return True


def _sides_alike(system, plan, values, bound):
    """The sides of a plan's option that are bounds, and endless exactly if the bound is."""
    sides = [(behind, addend) for behind, addend in system[bound][plan[bound]] if behind is not None]
    return [(behind, addend) for behind, addend in sides if (values[behind] is None) == (values[bound] is None)]


def _heights(sides, values):
    """A height for each bound: its value, or one that no side lies beneath if it is endless.

    Round a ring a sound plan adds more than 0, so heights that are lowered to those of their sides come to rest.
    """
    heights = {bound: 0 if value is None else value for bound, value in values.items()}
    lower = True
    while lower:
        lower = False
        for bound, told in sides.items():
            least = min([heights[behind] + addend for behind, addend in told], default=heights[bound])
            if least < heights[bound]:
                heights[bound] = least
                lower = True
    return heights


def _ranks(sides, heights):
    """A rank for each bound, greater than those of its sides that are just as high."""
    level = {}
    for bound, told in sides.items():
        level[bound] = [behind for behind, addend in told if heights[behind] + addend == heights[bound]]
    ranks = {bound: 0 for bound in sides}
    higher = True
    while higher:
        higher = False
        for bound, told in level.items():
            rank = max([ranks[behind] + 1 for behind in told], default=0)
            if rank > ranks[bound]:
                ranks[bound] = rank
                higher = True
    return ranks


def paper_by(system, plan, values):
    """A paper of the values of a sound plan."""
    sides = {bound: _sides_alike(system, plan, values, bound) for bound in system}
    heights = _heights(sides, values)
    ranks = _ranks(sides, heights)
    return [(plan[bound], heights[bound], ranks[bound]) for bound in system]


def _has_rows_at(table, places):
    return [place for place, row in enumerate(table) if row is not None] == places


def _a_link(program, ahead, value):
    """Whether any value is a tuple that a proof may have behind a table."""
    if not isinstance(value, tuple) or len(value) != 3:
        return False
    opened, table, paper = value
    if not some_open(program, opened) or not a_table(program, table):
        return False
    if None in [row_by_step(program, step, ahead) for step in opened]:
        return False
    if not _has_rows_at(table, places_come_to(program, opened)):
        return False
    values = worths_of(program, opened, reaches_in(program, opened, table))
    return a_paper(program, opened, values, paper)


def table_proved(program, value):
    """The table in which a proof ends, None if a value is none."""
    if not isinstance(value, list):
        return None
    table = first_table(program)
    for link in value:
        if not _a_link(program, table, link):
            return None
        table = link[1]
    return table
