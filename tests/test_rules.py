"""[1], [2] and the interface: what holds for every function."""

import inspect

from tests import calls, last_calls, later_calls
from tests.helpers import JUNK, Case, alike, copied, lists_in

MODULES = calls.MODULES + later_calls.MODULES + last_calls.MODULES
CALLS = [(function, good, told[0], told[1]) for _, rows in MODULES for function, good, told in rows]

INTERFACE = {
    "kinds": "is_end is_range is_name are_names is_program is_deed is_place is_state is_row is_table is_bound is_open "
             "written_by read_by is_test steps_into steps_out bounds_of end_at",
    "texts": "text_of_range text_of_deed text_of_program text_of_table range_of_text deed_of_text program_of_text "
             "table_of_text",
    "running": "can_go state_behind steps_from is_run states_of reached all_reached first_run_to stuck_states "
               "holds_state first_left shortest_leaving",
    "ranges": "span_holds how_many_held span_within span_joined span_met span_plus span_turned span_least "
              "span_greatest row_within row_joined row_met table_within table_joined table_met",
    "kept": "can_hold comes_of cause_of is_cause comes_by holding_at led_by holds_start not_kept is_kept",
    "phases": "phase_bounds options_of sides_of option_worth are_values are_kept_values is_plan values_of_table "
              "table_of_values",
    "rings": "is_ring ring_sum is_sound loose_ring",
    "plans": "values_of road_of is_road gains turned first_plan row_of_plans is_row_of_plans rest_of carried widened",
    "least": "least_table is_least range_at reached_places openings openings_by is_openings greatest_told end_limit",
    "hulls": "hull_of hull whole_hull lost_bounds run_to_bound is_round any_round most_moves",
    "turned": "scaled scaled_table moved moved_table mirrored mirrored_table with_places with_places_table with_names "
              "with_names_table with_steps",
    "papers": "is_paper paper_of is_proof is_proof_of proof_of is_shown answer_to is_answer",
    "lots": "is_level can_be_lowered lowered_by greatest_lot lowest rounds_down is_fall greatest_fall why_not_least",
    "games": "is_reply play sure_of at_most_of worths best_plan best_reply is_best_plan is_best_reply reply_of "
             "worths_within turns_for",
    "widths": "fits wrapped width_of widths_of start_fits sum_range wants_check wanting is_wrapped_run wrapped_states "
              "first_unlike",
    "checks": "checked_at checked idle_checks is_enough least_enough dead_steps idle_tests trimmed outside",
    "rounds": "table_behind told_endless rests rounds_to_rest",
    "leaps": "cuts_rings with_leaps leap_rounds going_down stands_still lost places_lost",
    "asking": "wish_holds broken_at guarded widest_test with_input widest_input with_start widest_start",
    "blame": "with_only blame_for is_blame cure_for is_cure all_blames all_cures",
    "comparing": "same_table first_unlike_place is_wider",
    "needless": "without_steps is_needless needless_steps kept_lot is_kept_lot all_kept_lots",
    "shapes": "joined_places split_place",
    "calls": "is_bundle is_walk stands_of contexts_of deepest expanded bundle_tables depth_for",
    "live": "is_edit",
}


def good_of(function):
    return [(good, names) for called, good, names, _ in CALLS if called is function][0]


class Interface(Case):
    def test_every_name_is_called_here_and_defined_in_its_file(self):
        for module, rows in MODULES:
            short = module.__name__.split(".")[-1]
            self.assertEqual([call[0].__name__ for call in rows], INTERFACE[short].split())
            for function, _, told in rows:
                self.assertEqual(function.__module__, module.__name__)
                self.assertIs(getattr(module, function.__name__), function)
                self.assertEqual(list(inspect.signature(function).parameters), told[0])


class EveryCall(Case):
    def test_by_position_and_by_name(self):
        for function, good, names, _ in CALLS:
            self.alike(function(*good), function(**dict(zip(names, good))))
            self.alike(function(*good), function(**dict(list(zip(names, good))[::-1])))

    def test_arguments_stay_as_they_were(self):
        for function, good, _, _ in CALLS:
            given = copied(good)
            function(*given)
            self.alike(given, good)

    def test_lists_are_new_and_stand_once(self):
        for function, good, _, _ in CALLS:
            one, other = function(*good), function(*good)
            self.alike(one, other)
            held = [id(found) for found in lists_in(one) + lists_in(other) + lists_in(good)]
            self.assertEqual(len(held), len(set(held)), function.__name__)

    def test_a_changed_result_changes_nothing_later(self):
        for function, good, _, _ in CALLS:
            one = function(*good)
            told = copied(one)
            for found in lists_in(one):
                found.append("changed")
            self.alike(function(*good), told)


class Wrong(Case):
    def test_each_wrong_argument(self):
        for function, good, _, wrong in CALLS:
            for at, (error, values) in enumerate(wrong):
                for value in values if error is not None else []:
                    given = copied(good[:at]) + (value,) + copied(good[at + 1:])
                    before = copied(given)
                    with self.subTest(function=function.__name__, at=at, value=value):
                        self.refused(error, value, function, *given)
                        self.alike(given, before)

    def test_the_earlier_error_first(self):
        for function, good, names, wrong in CALLS:
            for at, (error, values) in enumerate(wrong):
                for later in range(at + 1, len(wrong)):
                    if error is None:
                        continue
                    given = list(good)
                    given[at], given[later] = values[-1], wrong[later][1][-1]
                    self.refused(error, given[at], function, *given)
                    given[later] = wrong[later][1][3]
                    self.refused(error, given[at], function, *given)

    def test_all_wrong_is_told_of_the_first(self):
        for function, good, _, wrong in CALLS:
            if wrong[0][0] is not None:
                for value in wrong[0][1]:
                    self.refused(wrong[0][0], value, function, *[value] * len(good))

    def test_errors_of_the_other_arguments_come_ahead_of_false(self):
        for function, good, names, wrong in CALLS:
            if names[-1] == "value" and len(names) > 1:
                for value in JUNK:
                    self.refused(wrong[0][0], None, function, None, *good[1:-1], value)


class Telling(Case):
    def test_any_value_is_told(self):
        for function, good, names, _ in CALLS:
            if names[-1] != "value":
                continue
            self.assertIs(function(*good), True, function.__name__)
            for value in JUNK:
                self.assertIn(type(function(*good[:-1], value)), [bool])

    def test_what_is_told_true_of_values_of_all_sorts(self):
        expected = {
            "is_end": [None, 0, 1, -1, 2, 10 ** 29, -10 ** 29],
            "is_range": [(None, None), (0, None)],
            "is_name": ["x", "i", "go", "low", "high"],
            "are_names": [["go"], ["x"]],
            "is_program": [(["x"], 1, [(0, 0)], [])],
            "is_deed": [("go",)],
            "is_place": [0, 1, 2],
            "is_bound": [(0, "x", "low")],
            "is_open": [[]],
            "can_go": [(0, None)],
            "is_proof": [[]],
            "is_cure": [[1]],
            "is_walk": [[]],
        }
        for function, good, names, _ in CALLS:
            if names[-1] == "value":
                told = [value for value in JUNK if function(*good[:-1], value)]
                self.alike(told, [value for value in JUNK if any(alike(value, true) for true in expected.get(
                    function.__name__, []))])

    def test_lists_and_tuples_are_not_taken_for_each_other(self):
        for function, good, names, _ in CALLS:
            value = good[-1]
            if names[-1] == "value" and isinstance(value, (list, tuple)):
                other = tuple(value) if isinstance(value, list) else list(value)
                self.assertIs(function(*good[:-1], other), False, function.__name__)

    def test_booleans_are_no_numbers_within_values(self):
        for function, good, names, _ in CALLS:
            if names[-1] == "value":
                for changed in with_booleans(good[-1]):
                    self.assertIs(function(*good[:-1], changed), False, (function.__name__, changed))


def with_booleans(value):
    """The values with one of their numbers 0 and 1 changed to a Boolean each."""
    if type(value) is int:
        return [bool(value)] if value in (0, 1) else []
    if not isinstance(value, (list, tuple)):
        return []
    made = type(value)
    return [made(list(value[:at]) + [changed] + list(value[at + 1:]))
            for at, part in enumerate(value) for changed in with_booleans(part)]
