"""Books: sheets of cells that hold numbers, texts, truths and formulas."""

from allinputs.addresses import Address, address_text, alike_sheets, is_sheet_name, read_address
from allinputs.areas import Area
from allinputs.checks import check_string, is_plain
from allinputs.contents import content_for, text_of_content
from allinputs.errors import BadValue, NotAFormula, NotAName, Taken, TooHigh, TooMany, Unknown
from allinputs.holdings import Holding
from allinputs.numerals import number_text
from allinputs.ordering import small_letters
from allinputs.parser import MOST_FORMULA_CHARACTERS, read_formula
from allinputs.printer import tree_text
from allinputs.ratios import as_ratio, is_ratio
from allinputs.renaming import with_sheet_called, without_sheet
from allinputs.states import fresh_state, state_behind
from allinputs.trees import nodes_of, with_nodes
from allinputs.values import MOST_CHARACTERS
from allinputs.wholes import MOST_DIGITS
from allinputs.words import is_name


class Book:
    """A book: what it holds, and the values that follow from it, which are worked when they are asked for."""

    def __init__(self):
        self.held = Holding(("Sheet1",), {}, {}, {}, {})
        # What was held ahead of the last call that can change it, None if that changed nothing.
        self.ahead = None
        # The State of what is held now, or was held some calls before.
        self.settled = fresh_state(self.held)
        self.is_settled = True

    def __eq__(self, other):
        if not isinstance(other, Book):
            return False
        one, peer = self.held, other.held
        return one.tabs == peer.tabs and one.texts == peer.texts and one.name_texts == peer.name_texts

    def put(self, place, content):
        """Makes a cell hold what a text stands for, or a number or a truth."""
        check_string(place)
        _check_content(content)
        cell = cell_at(self, place)
        told = content
        if isinstance(content, str):
            told = content_for(content)
        elif not isinstance(content, bool):
            told = as_ratio(content)
        put_contents(self, {cell: told})

    def text_of(self, place):
        """The text of what a cell holds, "" for nothing."""
        check_string(place)
        return self.held.texts.get(cell_at(self, place), "")

    def value_of(self, place):
        """The value of a cell, None for a blank."""
        check_string(place)
        return value_in(self, cell_at(self, place))

    def holding(self):
        """The tuple of the places of all cells that hold something, in order."""
        return places_of(self, sorted(list(self.held.contents)))

    def sheets(self):
        """The tuple of the names of the sheets."""
        return self.held.tabs

    def add_sheet(self, name):
        """Puts an empty sheet behind the others."""
        check_string(name)
        self._check_fresh(name, None)
        held = self.held
        put_held(self, Holding(held.tabs + (name,), held.contents, held.texts, held.named, held.name_texts))

    def rename_sheet(self, name, fresh):
        """Gives a sheet another name."""
        check_string(name)
        check_string(fresh)
        at = sheet_at(self, name)
        self._check_fresh(fresh, at)
        if self.held.tabs[at] == fresh:
            put_held(self, self.held)
        else:
            put_held(self, with_sheet_called(self.held, at, fresh))

    def drop_sheet(self, name):
        """Takes out a sheet with all that its cells hold."""
        check_string(name)
        at = sheet_at(self, name)
        if len(self.held.tabs) == 1:
            raise TooMany(1)
        put_held(self, without_sheet(self.held, at))

    def define(self, name, text):
        """Lets a name stand for a formula, told as a text without "="."""
        check_string(name)
        check_string(text)
        if len(text) >= MOST_FORMULA_CHARACTERS:
            raise BadValue(text)
        if not is_name(name):
            raise NotAName(name)
        named = dict(self.held.named)
        named[small_letters(name)] = _fixed(_read_name_text(text), self.held.tabs[0])
        put_held(self, _with_names(self.held, named))

    def undefine(self, name):
        """Takes out a name."""
        check_string(name)
        named = dict(self.held.named)
        if named.pop(small_letters(name), None) is None:
            raise Unknown(name)
        put_held(self, _with_names(self.held, named))

    def names(self):
        """A dict from the names, ascending, to the texts of their formulas without "="."""
        texts = self.held.name_texts
        return {name: texts[name] for name in sorted(list(texts))}

    def copied(self):
        """A Book that is equal to this one and changes by itself."""
        book = Book()
        book.held = self.held
        book.ahead = self.ahead
        book.settled = self.settled
        book.is_settled = self.is_settled
        return book

    def _check_fresh(self, name, at):
        """A name of a sheet that no sheet has but maybe the one with a number."""
        if not is_sheet_name(name):
            raise NotAName(name)
        for number, tab in enumerate(self.held.tabs):
            if number != at and alike_sheets(tab, name):
                raise Taken(name)


def check_book(value):
    """A Book."""
    if not isinstance(value, Book):
        raise BadValue(value)


def sheet_at(book, name):
    """The number of the sheet with a name; None is the first one."""
    if name is None:
        return 0
    for at, tab in enumerate(book.held.tabs):
        if alike_sheets(tab, name):
            return at
    raise Unknown(name)


def cell_at(book, place):
    """The cell at a place, a string."""
    address = read_address(place)
    return sheet_at(book, address.sheet), address.row, address.column


def cell_asked(book, place):
    """The cell of a Book at a place, if both are what they should be."""
    check_book(book)
    check_string(place)
    return cell_at(book, place)


def place_of(book, cell):
    """The place of a cell, with its sheet."""
    return address_text(Address(cell[1], cell[2], sheet=book.held.tabs[cell[0]]))


def places_of(book, cells):
    """The tuple of the places of some cells."""
    return tuple([place_of(book, cell) for cell in cells])


def value_in(book, cell):
    """The value of a cell, None for a blank."""
    state = state_of(book)
    if not state.has_value(cell):
        raise TooHigh(MOST_DIGITS)
    return state.known.get(cell)


def state_of(book):
    """The State of what a book holds now."""
    if not book.is_settled:
        book.settled = state_behind(book.settled, book.held)
        book.is_settled = True
    return book.settled


def mesh_of(book):
    """The Mesh of what a book holds now."""
    return book.held.mesh_by(book.settled.held)


def put_contents(book, fresh):
    """Makes some cells of a book hold contents, a dict from the cells to these; None is nothing."""
    held = book.held
    contents = {cell: held.contents[cell] for cell in held.contents}
    texts = {cell: held.texts[cell] for cell in held.texts}
    for cell, content in fresh.items():
        contents.pop(cell, None)
        texts.pop(cell, None)
        if content is not None:
            contents[cell] = content
            texts[cell] = text_of_content(content)
    put_held(book, Holding(held.tabs, contents, texts, held.named, held.name_texts))


def put_held(book, held):
    """Makes a book hold something else, as one change."""
    if held.is_like(book.held):
        book.ahead = None
        return
    book.ahead = book.held
    book.held = held
    book.is_settled = False


def _with_names(held, named):
    """What a book holds with other names, a dict from them to their formulas."""
    name_texts = {name: tree_text(named[name])[1:] for name in named}
    return Holding(held.tabs, held.contents, held.texts, named, name_texts)


def _check_content(content):
    """What put takes as a content."""
    if isinstance(content, bool):
        return
    if isinstance(content, str):
        is_right = is_content_text(content)
    else:
        is_right = is_ratio(content) and _has_short_text(as_ratio(content))
    if not is_right:
        raise BadValue(content)


def is_content_text(text):
    """Whether a string is one that put takes as a content."""
    if text.startswith("="):
        return len(text) <= MOST_FORMULA_CHARACTERS
    return len(text.removeprefix("'")) <= MOST_CHARACTERS and is_plain(text)


def _has_short_text(ratio):
    """Whether the text of a Ratio is none of too many characters."""
    try:
        return len(number_text(ratio)) <= MOST_CHARACTERS
    except TooHigh:
        return False


def _read_name_text(text):
    """The formula of a name, by its text without "="."""
    try:
        return read_formula("=" + text)
    except NotAFormula as error:
        raise NotAFormula(error.at - 1) from error


def _fixed(formula, sheet):
    """A formula all of whose references have a sheet, and fixed rows and columns."""
    return with_nodes(formula, [_fixed_node(node, sheet) for node in nodes_of(formula)])


def _fixed_node(node, sheet):
    """A reference node with fixed rows and columns, on a sheet if it is on none."""
    if node[0] == "name":
        return node
    if node[0] != "area":
        return node[0], _fixed_corner(node[1], sheet)
    area = node[1]
    return "area", Area(_fixed_corner(area.first, sheet), _fixed_corner(area.last, sheet), whole=area.whole)


def _fixed_corner(address, sheet):
    """An Address with a fixed row and column, on a sheet if it is on none."""
    told = sheet if address.sheet is None else address.sheet
    return Address(address.row, address.column, fixed_row=True, fixed_column=True, sheet=told)
