"""Changes of programs, and what is gained by them [20]."""

from leastpools.changes import behind_edit, is_edit_form, possible_changes, program_of
from leastpools.errors import InvalidEdit
from leastpools.grids import Goods
from leastpools.programs import check_program


def edits(program):
    """Yield all edits of a program, in order."""
    check_program(program)
    for edit, jobs in possible_changes(program):
        if program_of(program.pools, jobs) is not None:
            yield edit


def edited(program, edit):
    """The program behind an edit."""
    check_program(program)
    later = None
    if is_edit_form(program, edit):
        later = behind_edit(program, edit)
    if later is None:
        raise InvalidEdit(edit)
    return later


def edited_by(program, some):
    """The program behind a list of edits."""
    check_program(program)
    if not isinstance(some, list):
        raise InvalidEdit(some)
    for edit in some:
        program = edited(program, edit)
    return program


def gains(program, edit):
    """The sizes that are good only behind an edit, and those that are good only before it."""
    after = Goods(edited(program, edit))
    before = Goods(program)
    return (list(after.beyond(before)), list(before.beyond(after)))
