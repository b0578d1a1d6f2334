"""What a book holds behind a sheet has got another name, or was taken out."""

from allinputs.addresses import Address, alike_sheets
from allinputs.areas import Area
from allinputs.holdings import Holding
from allinputs.printer import tree_text
from allinputs.trees import nodes_of, with_nodes


def with_sheet_called(held, at, fresh):
    """What a book holds if a sheet, told by its number, has another name; references that name it get this name."""
    tabs = held.tabs
    fresh_tabs = tabs[:at] + (fresh,) + tabs[at + 1:]
    return _followed(Holding(fresh_tabs, held.contents, held.texts, held.named, held.name_texts), tabs[at], fresh)


def without_sheet(held, at):
    """What a book holds without a sheet, told by its number; references on it are the fault REF."""
    left = Holding(
        held.tabs[:at] + held.tabs[at + 1:], _left_of(held.contents, at), _left_of(held.texts, at), held.named,
        held.name_texts,
    )
    return _followed(left, held.tabs[at], None)


def _left_of(table, at):
    """A dict with cells as keys without those of a sheet; the sheets behind it have lesser numbers."""
    return {
        (cell[0] - 1 if cell[0] > at else cell[0],) + cell[1:]: table[cell] for cell in table if cell[0] != at
    }


def _followed(held, sheet, fresh):
    """The same with another name of a sheet in all formulas, or with the fault REF if that is None."""
    contents = {cell: held.contents[cell] for cell in held.contents}
    texts = {cell: held.texts[cell] for cell in held.texts}
    for cell, content in held.contents.items():
        if isinstance(content, tuple) and _names(content, sheet):
            contents[cell] = _renamed(content, sheet, fresh)
            texts[cell] = tree_text(contents[cell])
    named = {name: _renamed(formula, sheet, fresh) for name, formula in held.named.items()}
    return Holding(held.tabs, contents, texts, named, {name: tree_text(named[name])[1:] for name in named})


def _names(formula, sheet):
    """Whether a reference in a formula names a sheet."""
    return any([_is_on(node, sheet) for node in nodes_of(formula)])


def _is_on(node, sheet):
    """Whether a reference node names a sheet."""
    return node[0] != "name" and node[1].sheet is not None and alike_sheets(node[1].sheet, sheet)


def _renamed(formula, sheet, fresh):
    """A formula with another name of a sheet in its references, or with the fault REF in their places."""
    return with_nodes(formula, [_renamed_node(node, sheet, fresh) for node in nodes_of(formula)])


def _renamed_node(node, sheet, fresh):
    """A reference node with another name of a sheet, or the fault REF."""
    if not _is_on(node, sheet):
        return node
    return ("fault", "REF") if fresh is None else on_sheet(node, fresh)


def on_sheet(node, sheet):
    """A reference node of a cell, a spill or an area, on another sheet."""
    if node[0] != "area":
        return node[0], _address_on(node[1], sheet)
    area = node[1]
    return "area", Area(_address_on(area.first, sheet), _address_on(area.last, sheet), whole=area.whole)


def _address_on(address, sheet):
    """An Address on another sheet."""
    return Address(
        address.row, address.column, fixed_row=address.fixed_row, fixed_column=address.fixed_column, sheet=sheet,
    )
