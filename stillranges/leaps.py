"""Going round with leaps, down again, and what is lost by it."""

from stillranges.errors import InvalidNumber, InvalidPlace, InvalidTable, Stuck
from stillranges.leaping import cut_all_rings, gone_with_leaps
from stillranges.needs import need_count, need_program, need_table
from stillranges.opening import least_of
from stillranges.options import bounds_at
from stillranges.plain import a_whole, ascending, some_places
from stillranges.rows import copied_row, end_of, kept_table, table_led


def _need_places(program, places):
    need_program(program)
    if not some_places(program, places):
        raise InvalidPlace(places)


def _need_leaps(program, places, thresholds):
    _need_places(program, places)
    if not cut_all_rings(program, places):
        raise Stuck(places)
    if not isinstance(thresholds, list) or not all([a_whole(number) for number in thresholds]):
        raise InvalidNumber(thresholds)
    if not ascending(thresholds):
        raise InvalidNumber(thresholds)


def _need_kept(program, table):
    need_program(program)
    need_table(program, table)
    if not kept_table(program, table):
        raise InvalidTable(table)


def cuts_rings(program, places):
    """Whether each ring of steps leads to one of some places."""
    _need_places(program, places)
    return cut_all_rings(program, places)


def with_leaps(program, places, thresholds):
    """The table at which going round comes to rest if ends at some places leap to thresholds."""
    _need_leaps(program, places, thresholds)
    return gone_with_leaps(program, places, thresholds)[0]


def leap_rounds(program, places, thresholds):
    """How many rounds with leaps lead to the table at which they come to rest."""
    _need_leaps(program, places, thresholds)
    return gone_with_leaps(program, places, thresholds)[1]


def going_down(program, table, many):
    """The table to which so many rounds lead from a kept table."""
    _need_kept(program, table)
    need_count(many)
    down = [copied_row(row) for row in table]
    led = table_led(program, down)
    rounds = 0
    while rounds < many and led != down:
        down = led
        led = table_led(program, down)
        rounds += 1
    return down


def stands_still(program, table):
    """Whether a round leaves a kept table as it is."""
    _need_kept(program, table)
    return table_led(program, table) == table


def _losses_at(program, table, least, place):
    """The bounds of a place that are wider in the table than in the least one, with by how much."""
    found = []
    for bound in bounds_at(program, place):
        end, least_end = end_of(program, table, bound), end_of(program, least, bound)
        if end != least_end:
            found.append((bound, None if end is None else abs(end - least_end)))
    return found


def lost(program, table):
    """The bounds that are wider in a kept table than in the least one, with by how much: None if endless here alone."""
    _need_kept(program, table)
    least = least_of(program)
    found = []
    for place, row in enumerate(least):
        if row is not None:
            found.extend(_losses_at(program, table, least, place))
    return found


def places_lost(program, table):
    """The places that have a row in a kept table, but not in the least one."""
    _need_kept(program, table)
    least = least_of(program)
    return [place for place, row in enumerate(table) if row is not None and least[place] is None]
