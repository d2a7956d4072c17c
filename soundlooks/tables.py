"""Tables: a look for each place of a program, what comes to places, and looking until nothing changes."""

from soundlooks.arguments import refuse_wrong_place, refuse_wrong_proc, refuse_wrong_program
from soundlooks.errors import InvalidOrder, InvalidState, InvalidTable, NotClosed
from soundlooks.flows import Board, Flow, analysed_by, empty_rows
from soundlooks.lying import lies_in_table
from soundlooks.states import Machine

MOST_LOOKS = 300


def empty_table(program):
    """The table of None everywhere."""
    return empty_rows(flow_of(program))


def coming(program, table, proc, place):
    """What comes to a place in a table."""
    return board_at(program, table, proc, place).coming((proc, place))


def looked_at(program, table, proc, place):
    """The table behind looking at a place."""
    board = board_at(program, table, proc, place)
    board.look_at((proc, place))
    return board.table()


def looked(program, table, order):
    """The table behind looking at the places of an order."""
    board = board_of(program, table)
    refuse_wrong_order(board.flow, order)
    board.look_in_order(order)
    return board.table()


def number_of(program, table):
    """The number of a table."""
    return board_of(program, table).number()


def open_place(program, table):
    """The first place to which something comes that does not lie within its look; None if there is none."""
    return board_of(program, table).open_key()


def is_closed(program, table):
    """Whether a table is closed."""
    return board_of(program, table).open_key() is None


def analysed(program, order):
    """The table of a program analysed by an order."""
    board, _ = analysed_board(program, order)
    return board.table()


def changes_of(program, order):
    """How many looks change something when a program is analysed by an order, and the number of the table of None."""
    board, changed = analysed_board(program, order)
    return changed, Board(board.flow, empty_rows(board.flow)).number()


def narrowed(program, table, order):
    """A closed table narrowed at the places of an order."""
    board = board_of(program, table)
    refuse_wrong_order(board.flow, order)
    if board.open_key() is not None:
        raise NotClosed()
    for key in order:
        board.narrow(key)
    return board.table()


def lies_in(program, table, state):
    """Whether a state lies in a table."""
    board_of(program, table)
    machine = Machine(program)
    if not machine.is_state(state):
        raise InvalidState(state)
    return lies_in_table(machine, table, state)


def flow_of(program):
    """The flow of a program, which is not taken for granted."""
    refuse_wrong_program(program)
    return Flow(program)


def flow_at(program, proc, place):
    """The flow of a program; neither this nor a place of it is taken for granted."""
    flow = flow_of(program)
    refuse_wrong_place_of(flow, proc, place)
    return flow


def board_of(program, table):
    """The board of a table; neither it nor its program is taken for granted."""
    flow = flow_of(program)
    refuse_wrong_table(flow, table)
    return Board(flow, table)


def board_at(program, table, proc, place):
    """The board of a table; neither it nor the place is taken for granted."""
    board = board_of(program, table)
    refuse_wrong_place_of(board.flow, proc, place)
    return board


def analysed_board(program, order):
    """The board of a program analysed by an order; and how many looks changed something."""
    flow = flow_of(program)
    refuse_wrong_order(flow, order)
    return analysed_by(flow, order)


def refuse_wrong_place_of(flow, proc, place):
    """Raises an error for what is no index of a procedure, or no place of its graph."""
    refuse_wrong_proc(flow.program, proc)
    refuse_wrong_place(flow.layouts[proc], place)


def refuse_wrong_table(flow, table):
    """Raises InvalidTable for what is no table of a program."""
    if not flow.has_form(table):
        raise InvalidTable(None)
    wrong = flow.wrong_look_in(table)
    if wrong is not None:
        raise InvalidTable(wrong)


def refuse_wrong_order(flow, order):
    """Raises InvalidOrder for what is no order of looking at the places of a program."""
    if not isinstance(order, tuple) or len(order) > MOST_LOOKS:
        raise InvalidOrder(None)
    for index, key in enumerate(order):
        if not flow.is_place(key):
            raise InvalidOrder(index)
