"""Which formulas were worked, and all values worked anew."""

from allinputs.book import check_book, mesh_of, place_of, places_of
from allinputs.states import fresh_state, touched, worked_in_turn


def last_worked(book):
    """The tuple of the places worked anew by the last call that can change a Book and raised no error."""
    check_book(book)
    if book.ahead is None:
        return ()
    mesh_of(book)
    return places_of(book, worked_in_turn(touched(book.ahead, book.held)))


def fresh_values(book):
    """A dict from the places of all cells that hold something, in order, to their values, all worked anew."""
    check_book(book)
    state = fresh_state(book.held)
    cells = [cell for cell in sorted(list(state.held.contents)) if state.has_value(cell)]
    return {place_of(book, cell): state.known[cell] for cell in cells}
