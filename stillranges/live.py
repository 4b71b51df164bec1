"""A live checker: a program and wishes for it, which are edited step by step."""

from stillranges.changing import program_copied
from stillranges.editing import an_edit, not_met, places_endless, program_edited, wishes_edited
from stillranges.errors import InvalidEdit, NothingToRedo, NothingToUndo
from stillranges.going import places_unlike
from stillranges.needs import need_name, need_program
from stillranges.opening import least_of
from stillranges.rows import copied_row
from stillranges.texts import text_of_program


class LiveChecker:
    """A program and wishes for it, with the edits that were done and those that can be done again.

    What there was at first and behind each edit is kept as a stand: a tuple of the edit, of the program, of the
    wishes and of the least table. No list in a stand is changed or handed out.
    """

    def __init__(self, program):
        need_program(program)
        self._stands = [(None, program_copied(program), [], least_of(program))]
        # The number of the stand now, and of the one ahead of what was done, taken back or done again last.
        self._now = 0
        self._ahead = 0

    def __eq__(self, other):
        if not isinstance(other, LiveChecker):
            return False
        return self.program() == other.program() and self.wishes() == other.wishes() and self.log() == other.log()

    def _stand_with(self, edit):
        """The stand that there would be behind an edit."""
        _, program, wishes, _ = self._stands[self._now]
        if not an_edit(program, wishes, edit):
            raise InvalidEdit(edit)
        edited = program_edited(program, edit)
        return (edit, edited, wishes_edited(wishes, edit), least_of(edited))

    def _go_to(self, number):
        self._ahead = self._now
        self._now = number

    def do(self, edit):
        """Does an edit, and forgets what was taken back."""
        stand = self._stand_with(edit)
        self._stands = self._stands[:self._now + 1] + [stand]
        self._go_to(self._now + 1)

    def undo(self):
        """Takes the last edit back that is not taken back yet."""
        if self._now == 0:
            raise NothingToUndo()
        self._go_to(self._now - 1)

    def redo(self):
        """Does again what was taken back last."""
        if self._now + 1 == len(self._stands):
            raise NothingToRedo()
        self._go_to(self._now + 1)

    def log(self):
        """The edits that are done and not taken back."""
        return [edit for edit, _, _, _ in self._stands[1:self._now + 1]]

    def copy(self):
        """A live checker that tells the same, and goes its own way from now on."""
        other = LiveChecker(self.program())
        other._stands = list(self._stands)
        other._now = self._now
        other._ahead = self._ahead
        return other

    def program(self):
        return program_copied(self._stands[self._now][1])

    def wishes(self):
        return list(self._stands[self._now][2])

    def table(self):
        """The least table."""
        return [copied_row(row) for row in self._stands[self._now][3]]

    def told(self):
        """The text of the program."""
        return text_of_program(self._stands[self._now][1])

    def alarms(self):
        """The numbers of the wishes that are not met."""
        _, program, wishes, table = self._stands[self._now]
        return not_met(program, table, wishes)

    def news(self):
        """The places at which what was done, taken back or done again last has changed the row, with both rows."""
        ahead, behind = self._stands[self._ahead][3], self._stands[self._now][3]
        return [(place, copied_row(ahead[place]), copied_row(behind[place])) for place in places_unlike(ahead, behind)]

    def risks(self, name):
        """The places at which a name has an endless end."""
        _, program, _, table = self._stands[self._now]
        need_name(program, name)
        return places_endless(program, table, name)

    def table_with(self, edit):
        """The least table that there would be behind an edit."""
        return self._stand_with(edit)[3]

    def alarms_with(self, edit):
        """The alarms that there would be behind an edit."""
        _, program, wishes, table = self._stand_with(edit)
        return not_met(program, table, wishes)

    def mending(self):
        """The steps each of which, taken out alone, leaves no alarm, none if there is none now."""
        _, program, _, _ = self._stands[self._now]
        if not self.alarms():
            return []
        return [step for step in range(len(program[3])) if not self.alarms_with(("take", step))]


def is_edit(live, value):
    """Whether any value is an edit that a live checker can do now."""
    if not isinstance(live, LiveChecker):
        raise InvalidEdit(live)
    return an_edit(live.program(), live.wishes(), value)
