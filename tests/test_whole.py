"""What the document promises over the whole program: one least table, told in every way."""

import inspect
import time

from stillranges import errors, live
from stillranges.blame import blame_for, with_only
from stillranges.calls import bundle_tables, expanded
from stillranges.checks import checked_at, dead_steps, trimmed
from stillranges.games import sure_of, worths
from stillranges.hulls import whole_hull
from stillranges.kept import holding_at, is_kept, led_by
from stillranges.kinds import bounds_of, end_at
from stillranges.leaps import going_down, lost, places_lost, stands_still, with_leaps
from stillranges.least import (
    end_limit, is_least, is_openings, least_table, openings, openings_by, range_at, reached_places)
from stillranges.live import LiveChecker
from stillranges.lots import greatest_fall, greatest_lot, is_level, lowered_by, lowest, why_not_least
from stillranges.needless import kept_lot, needless_steps, without_steps
from stillranges.papers import answer_to, is_answer, is_paper, is_proof_of, is_shown, paper_of, proof_of
from stillranges.phases import phase_bounds, table_of_values, values_of_table
from stillranges.plans import first_plan, gains, rest_of, row_of_plans, values_of
from stillranges.ranges import row_within, table_joined, table_met, table_within
from stillranges.rounds import rests, rounds_to_rest, table_behind
from stillranges.running import all_reached, reached
from stillranges.shapes import joined_places, split_place
from stillranges.texts import program_of_text, table_of_text, text_of_program, text_of_table
from stillranges.turned import (
    mirrored, mirrored_table, moved, moved_table, scaled, scaled_table, with_names, with_names_table, with_places,
    with_places_table, with_steps)
from stillranges.widths import sum_range, widths_of
from tests import calls, last_calls, later_calls
from tests.going_round import least_by_rounds
from tests.helpers import FAR, Case, any_program, copied, dice, lists_in
from tests.test_least import any_great
from tests.test_live import METHODS


def some_programs(seed, many, steps=8, endless=0.15):
    chance = dice(seed)
    for _ in range(many):
        yield any_program(chance, names=chance.randint(1, 3), places=chance.randint(1, 4), steps=chance.randint(0, steps),
                          endless=chance.choice([0, endless])), chance


def told_by_plans(program):
    """The least table told by turning plans in the phase of all steps that are open at last."""
    opened = holding_at(program, least_table(program))
    plan = row_of_plans(program, opened, first_plan(program, opened))[-1]
    return table_of_values(program, opened, values_of(program, opened, plan))


def told_by_claims(program):
    """The ends of the least table, each told by trying claims, with halves of what is left of their limit."""
    table = []
    for place in range(program[1]):
        row = []
        for name in program[0]:
            high = told_end(program, (place, name, "high"))
            low = told_end(program, (place, name, "low"))
            row.append((low, high))
        table.append(None if is_shown(program, (place, program[0][0], "high"), -FAR) else row)
    return table


def told_end(program, bound):
    limit = end_limit(program) + 1
    sign = 1 if bound[2] == "high" else -1
    if not is_shown(program, bound, sign * limit):
        return None
    low, high = -limit - 1, limit
    while high - low > 1:
        middle = (low + high) // 2
        if is_shown(program, bound, sign * middle):
            high = middle
        else:
            low = middle
    return sign * high


def told_by_falls_and_lots(program):
    """The least table told from a wider level one: its endless ends fall, and all is lowered."""
    least = least_table(program)
    table = [None if row is None else [(None, None)] * len(program[0]) for row in least]
    if not is_level(program, table):
        return None
    while why_not_least(program, table) is not None:
        fallen = {bound for bound, _ in greatest_fall(program, table)}
        numbers = dict(greatest_fall(program, table))
        far = 4 * (end_limit(program) + 1)
        table = [None if row is None else [(
            -(far + numbers[(place, name, "low")]) if (place, name, "low") in fallen else low,
            far + numbers[(place, name, "high")] if (place, name, "high") in fallen else high)
            for (low, high), name in zip(row, program[0])] for place, row in enumerate(table)]
        table = lowest(program, table)
    return table


class OneTable(Case):
    def test_told_in_every_way(self):
        by_falls, by_rounds = 0, 0
        for program, chance in some_programs(301, 250):
            least = least_table(program)
            self.alike(least_by_rounds(program), least)
            told = openings(program)
            self.alike(told[-1][1] if told else [program[2]] + [None] * (program[1] - 1), least)
            picked = openings_by(program, [chance.randint(0, 9) for _ in range(9)])
            self.alike(picked[-1][1] if picked else [program[2]] + [None] * (program[1] - 1), least)
            self.assertTrue(is_openings(program, told) and is_openings(program, picked))
            self.alike(told_by_plans(program), least)
            proof = proof_of(program)
            self.assertIs(is_proof_of(program, least, proof), True)
            self.alike(proof[-1][1] if proof else [program[2]] + [None] * (program[1] - 1), least)
            self.alike(told_by_claims(program), least)
            fallen = told_by_falls_and_lots(program)
            if fallen is not None:
                self.alike(fallen, least)
                by_falls += 1
            self.assertIs(why_not_least(program, least), None)
            ends = sorted({end for row in least for span in row or [] for end in span if end is not None})
            self.alike(with_leaps(program, list(range(program[1])), ends), least)
            self.alike(LiveChecker(program).table(), least)
            if rests(program):
                self.alike(table_behind(program, rounds_to_rest(program)), least)
                by_rounds += 1
            self.assertIs(is_least(program, least), True)
            self.alike(bundle_tables((program[0], program[2], [(program[1], program[3])]), chance.randint(0, 3)), [least])
            self.alike(expanded((program[0], program[2], [(program[1], program[3])]), 0)[0], program)
        self.assertTrue(by_falls > 40 and by_rounds > 150, (by_falls, by_rounds))

    def test_a_live_checker_that_came_to_it_step_by_step(self):
        for program, chance in some_programs(302, 80):
            built = LiveChecker((program[0], program[1], [(0, 0)] * len(program[0]), []))
            for number, step in enumerate(program[3]):
                built.do(("put", number, step))
                if chance.random() < 0.3:
                    built.do(("put", chance.randint(0, number + 1), (0, 0, ("set", program[0][0], 9))))
                    built.undo()
            for name, span in zip(program[0], program[2]):
                built.do(("start", name, span))
            self.alike([built.program(), built.table(), built.told()], [program, least_table(program), text_of_program(program)])

    def test_the_end_of_each_phase(self):
        for program, _ in some_programs(303, 120):
            for opened, table in openings(program):
                rest = rest_of(program, opened)
                self.alike(worths(program, opened), rest)
                self.alike(values_of_table(program, opened, table), rest)
                plan = row_of_plans(program, opened, first_plan(program, opened))[-1]
                self.alike([sure_of(program, opened, plan), gains(program, opened, plan)], [rest, []])
                self.assertIs(is_paper(program, opened, rest, paper_of(program, opened)), True)
                self.assertEqual(len(phase_bounds(program, opened)), len(rest))

    def test_tables_above_it(self):
        """What any kept table tells: the least one lies within it, and going down stays above it."""
        for program, chance in some_programs(304, 200):
            least = least_table(program)
            one = with_leaps(program, list(range(program[1])), sorted(chance.sample(range(-9, 10), chance.randint(0, 5))))
            other = least_table(program[:3] + (program[3] + [(0, chance.randrange(program[1]), ("set", program[0][0], 7))],))
            for table in (one, other, table_met(program, one, other)):
                self.assertIs(is_kept(program, table), True)
                self.assertIs(table_within(program, least, table), True)
                self.assertIs(lost(program, table) == [] and places_lost(program, table) == [], table == least)
                down = going_down(program, table, 40)
                self.assertIs(table_within(program, down, table), True)
                if not is_level(program, down):
                    continue
                # Lowered until nothing can be lowered, it has the ends of the least table that are not endless in it.
                low = lowest(program, down)
                self.assertIs(table_within(program, low, down), True)
                self.alike(greatest_lot(program, low), [])
                self.assertIs(stands_still(program, low), led_by(program, low) == low)
                lot = greatest_lot(program, down)
                if lot:
                    self.assertIs(table_within(program, low, lowered_by(program, down, lot)), True)
            self.assertIs(table_within(program, least, table_joined(program, one, other)), True)

    def test_claims_answers_and_blame(self):
        for program, chance in some_programs(305, 150, steps=6):
            least = least_table(program)
            bound = chance.choice(bounds_of(program))
            number = chance.randint(-5, 5)
            shown = is_shown(program, bound, number)
            answer = answer_to(program, bound, number)
            self.assertIs(is_answer(program, bound, number, answer), True)
            self.assertEqual(answer[0], "yes" if shown else "no")
            blame = blame_for(program, bound, number)
            self.assertIs(blame is None, shown)
            if blame is not None:
                self.assertIs(table_within(program, least_table(with_only(program, blame)), least), True)
            if least[bound[0]] is not None:
                end = end_at(program, least, bound)
                self.assertIs(shown, end is not None and (end <= number if bound[2] == "high" else end >= number))
            self.alike(range_at(program, bound[0], bound[1]), None if least[bound[0]] is None else least[bound[0]][
                program[0].index(bound[1])])


class GoingAlong(Case):
    def test_tables_go_along(self):
        for program, chance in some_programs(306, 200):
            least = least_table(program)
            self.alike(least_table(mirrored(program)), mirrored_table(program, least))
            number = chance.choice([-7, 3, 10 ** 28])
            self.alike(least_table(moved(program, number)), moved_table(program, least, number))
            self.alike(least_table(scaled(program, 10 ** 28)), scaled_table(program, least, 10 ** 28))
            places = [0] + chance.sample(range(1, program[1]), program[1] - 1)
            self.alike(least_table(with_places(program, places)), with_places_table(program, least, places))
            names = chance.sample(["q", "k9", "zz", "a"], len(program[0]))
            self.alike(least_table(with_names(program, names)), with_names_table(program, least, names))
            order = chance.sample(range(len(program[3])), len(program[3]))
            self.alike(least_table(with_steps(program, order)), least)
            self.alike(least_table(program_of_text(text_of_program(program))), least)
            self.alike(table_of_text(program, text_of_table(program, least)), least)

    def test_states_go_along(self):
        compared = 0
        for program, chance in some_programs(307, 150, endless=0):
            try:
                states = all_reached(program)
            except errors.TooMany:
                continue
            number = chance.choice([-7, 3, 10 ** 28])
            self.alike(all_reached(moved(program, number)), [(place, [one + number for one in numbers]) for place, numbers in states])
            self.alike(all_reached(mirrored(program)), sorted((place, [-one for one in numbers]) for place, numbers in states))
            places = [0] + chance.sample(range(1, program[1]), program[1] - 1)
            self.alike(all_reached(with_places(program, places)), sorted((places[place], numbers) for place, numbers in states))
            order = chance.sample(range(len(program[3])), len(program[3]))
            self.alike(all_reached(with_steps(program, order)), states)
            names = chance.sample(["q", "k9", "zz", "a"], len(program[0]))
            self.alike(all_reached(with_names(program, names)), sorted(
                (place, [dict(zip(names, numbers))[name] for name in sorted(names)]) for place, numbers in states))
            self.alike(all_reached(trimmed(program)), states)
            self.alike(whole_hull(trimmed(program)), whole_hull(program))
            compared += 1
        self.assertGreater(compared, 60)

    def test_dead_and_needless_steps_left_out(self):
        for program, _ in some_programs(308, 200):
            least = least_table(program)
            dead = dead_steps(program)
            self.alike([least_table(without_steps(program, dead)), least_table(trimmed(program))], [least, least])
            for step in dead:
                self.assertIn(step, needless_steps(program))
            self.alike(least_table(with_only(program, kept_lot(program))), least)
            self.assertFalse(set(kept_lot(program)) & set(dead))

    def test_places_put_together_and_split(self):
        for program, chance in some_programs(309, 150):
            least = least_table(program)
            place = chance.randrange(program[1])
            into = [step for step, (_, target, _) in enumerate(program[3]) if target == place]
            split = split_place(program, place, into[::2])
            self.alike(least_table(joined_places(split, place, program[1])), least)
            for at in reached_places(split):
                self.assertTrue(row_within(program, least_table(split)[at], least[place if at == program[1] else at]))

    def test_what_runs_come_to_is_held_in_every_way(self):
        for program, _ in some_programs(310, 100, endless=0):
            try:
                states = reached(program, 4)
            except errors.TooMany:
                continue
            live_one = LiveChecker(program)
            for place, numbers in states:
                for table in (table_behind(program, 5), live_one.table(), with_leaps(program, list(range(program[1])), [0])):
                    row = table[place]
                    self.assertTrue(row_within(program, [(number, number) for number in numbers], row))

    def test_widths_and_checks_beside_it(self):
        for program, chance in some_programs(311, 100):
            least = least_table(program)
            self.alike(checked_at(program, 8, []), program)
            for width, name in zip(widths_of(program), program[0]):
                ends = [end for row in least if row is not None for end in row[program[0].index(name)]]
                self.alike(width, None if None in ends else max(
                    [(end if end >= 0 else -end - 1).bit_length() + 1 for end in ends]))
            for step in range(len(program[3])):
                self.assertTrue(sum_range(program, step) is None or least[program[3][step][0]] is not None)


class WholeInterface(Case):
    def test_every_function_of_the_interface_is_called(self):
        """As the interface lists them; a LiveChecker is tested by itself."""
        listed = [call[0].__name__ for module in (calls, later_calls, last_calls) for _, rows in module.MODULES for call in rows]
        self.assertEqual(len(listed), 211)
        self.assertEqual(len(listed), len(set(listed)))
        for name, arguments in METHODS.items():
            self.assertEqual(list(inspect.signature(vars(LiveChecker)[name]).parameters), ["self"] + arguments)
        self.assertEqual([name for name, _ in inspect.getmembers(live, inspect.isclass) if getattr(
            live, name).__module__ == "stillranges.live"], ["LiveChecker"])

    def test_results_hold_no_list_twice_and_arguments_stay(self):
        for module in (calls, later_calls, last_calls):
            for _, rows in module.MODULES:
                for function, good, _ in rows:
                    given = copied(good)
                    lists = lists_in(function(*given)) + lists_in(given)
                    self.assertEqual(len({id(found) for found in lists}), len(lists), function.__name__)
                    self.alike(given, good)

    def test_within_seconds_up_to_the_limits(self):
        began = time.perf_counter()
        chance = dice(312)
        for top in (3, FAR):
            program = any_great(chance, top)
            least = least_table(program)
            self.alike(told_by_plans(program), least)
            self.assertIs(is_proof_of(program, least, proof_of(program)), True)
            self.alike(LiveChecker(program).table(), least)
            ends = sorted({end for row in least for span in row or [] for end in span if end is not None})
            self.alike(with_leaps(program, list(range(12)), ends), least)
            self.alike(least_table(with_only(program, kept_lot(program))), least)
        self.assertLess(time.perf_counter() - began, 30)
