"""Papers and proofs, by which a judge sees that a table is the least one, and answers to claims."""

from stillranges.claims import need_claim, shown_in
from stillranges.needs import need_program, need_table
from stillranges.opening import least_of, turns_by
from stillranges.options import system_of, worths_of
from stillranges.phase_needs import need_phase, need_values
from stillranges.plain import a_table
from stillranges.proving import a_paper, paper_by, table_proved
from stillranges.rows import kept_table
from stillranges.solving import carried_on, plans_from, values_by


def is_paper(program, opened, values, value):
    """Whether any value is a paper of some values of a phase."""
    need_phase(program, opened)
    need_values(program, opened, values)
    return a_paper(program, opened, worths_of(program, opened, values), value)


def paper_of(program, opened):
    """A paper of the least values."""
    need_phase(program, opened)
    system = system_of(program, opened)
    plan, values = plans_from(system, carried_on(program, opened, {}))[-1]
    return paper_by(system, plan, values)


def is_proof(program, value):
    need_program(program)
    return table_proved(program, value) is not None


def is_proof_of(program, table, value):
    """Whether any value is a proof that ends in a table, and this is kept."""
    need_program(program)
    need_table(program, table)
    return kept_table(program, table) and table_proved(program, value) == table


def _proof_by(program):
    proof = []
    for opened, table, plan in turns_by(program, None)[1:]:
        system = system_of(program, opened)
        proof.append((opened, table, paper_by(system, plan, values_by(system, plan))))
    return proof


def proof_of(program):
    """A proof that ends in the least table."""
    need_program(program)
    return _proof_by(program)


def is_shown(program, bound, number):
    """Whether ranges show that a name never passes a number on this side at the bound's place."""
    need_claim(program, bound, number)
    return shown_in(program, least_of(program), bound, number)


def answer_to(program, bound, number):
    """An answer to the claim: a kept table in which it is so, or a proof that ends in one in which it is not."""
    need_claim(program, bound, number)
    least = least_of(program)
    return ("yes", least) if shown_in(program, least, bound, number) else ("no", _proof_by(program))


def _shows(program, bound, number, table):
    """Whether any value is a kept table in which the claim is so."""
    return a_table(program, table) and kept_table(program, table) and shown_in(program, table, bound, number)


def _shows_not(program, bound, number, proof):
    """Whether any value is a proof that ends in a table in which the claim is not so."""
    table = table_proved(program, proof)
    return table is not None and not shown_in(program, table, bound, number)


def is_answer(program, bound, number, value):
    """Whether any value is an answer to the claim."""
    need_claim(program, bound, number)
    if not isinstance(value, tuple) or len(value) != 2:
        return False
    if value[0] == "yes":
        return _shows(program, bound, number, value[1])
    return value[0] == "no" and _shows_not(program, bound, number, value[1])
