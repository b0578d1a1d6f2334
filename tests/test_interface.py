"""The interface: names, arguments, and where each is defined."""

import ast
import importlib
import inspect
import pathlib
import unittest

PACKAGE = pathlib.Path(__file__).resolve().parent.parent / "allinputs"

# For each module the functions, and the classes with their methods.
FUNCTIONS = {
    "points": ["count_roots(poly, low, high)", "isolate(poly, low, high)"],
    "curves": ["curve_text(curve)"],
    "spans": ["roots_in(poly, span)"],
    "strands": ["strand(curve, span)"],
    "members": ["member(point, curve)"],
    "numbersorder": ["order_numbers(one, other)"],
    "values": ["is_value(thing)", "kind_of(value)", "same(one, other)"],
    "grids": ["grid_of(thing)", "is_line(grid)"],
    "numerals": ["number_text(ratio)", "read_number(text)"],
    "turning": ["to_number(value)", "to_text(value)", "to_truth(value)"],
    "ordering": ["order(one, other)", "sort_order(one, other)", "small_letters(text)"],
    "roundings": ["rounded_parts(ratios, places)"],
    "formats": ["shown(value, form)"],
    "shownalike": ["bands(form, text)"],
    "addresses": ["letters_of(column)", "column_of(letters)", "address_text(address)", "read_address(text)"],
    "areas": ["area_text(area)", "read_area(text)"],
    "parser": ["read_formula(text)", "read_relative_formula(text, base)"],
    "trees": ["is_formula(value)", "height(formula)", "references(formula)", "with_references(formula, nodes)",
              "moved(formula, rows, columns)"],
    "printer": ["formula_text(formula)", "formula_relative(formula, base)"],
    "criteria": ["fits(text, pattern)", "meets(value, criterion)"],
    "operators": ["operate(sign, one, other)", "negated(value)"],
    "days": ["day_number(year, month, day)", "date_of(number)"],
    "signatures": ["function_names()", "takes(name)", "place_sort(name, many, at)"],
    "functions": ["call(name, arguments, *, here=(1, 1))", "wanted(name, many, known)"],
    "arrays": ["stretched(grids)", "part_at(grid, row, column)"],
    "webs": ["seen_by(book, place)", "hangs_on(book, place)", "fed_by(book, place)", "rings(book)"],
    "working": ["last_worked(book)", "fresh_values(book)"],
    "spills": ["reach_at(book, place)", "spill_area(book, place)", "spilled_from(book, place)"],
    "structure": ["insert_rows(book, sheet, at, many)", "insert_columns(book, sheet, at, many)",
                  "delete_rows(book, sheet, at, many)", "delete_columns(book, sheet, at, many)",
                  "open_cells(book, area, *, down=True)", "close_cells(book, area, *, up=True)"],
    "moving": ["move_cells(book, area, place)", "copy_cells(book, area, place)"],
    "filling": ["fill_cells(book, area, onto)"],
    "sorting": ["sort_rows(book, area, by)"],
    "splits": ["told_row(work, low=None, high=None)"],
    "goals": ["goal(told, cell, ratio)", "where_sign(told, cell, sign)"],
    "breaks": ["failing(told, cell)", "first_break(told, cell, ratio, up=True)"],
    "ends": ["least(told, cell)", "greatest(told, cell)"],
    "tables": ["what_if(told, cells, ratios)", "steps_of(told, cell)"],
    "alike": ["parts_from(one, other, cell, peer)", "alike_places(one, other)"],
    "rests": ["is_single(book, place)", "rests(book, place, low=None, high=None)", "values_at_rest(book, place, ratio)"],
    "courses": ["rounds_row(book, begin, free, cell, many, low=None, high=None)"],
    "rowtexts": ["read_rows(text, mark=',')", "rows_text(rows, mark=',')"],
    "filters": ["kept(grid, tests)", "barring(grid, tests, row)", "selectable(grid, tests, column)",
                "fewest_lifted(grid, tests, many)", "top_rows(grid, column, many)"],
    "pivots": ["changes(pivot, other)"],
    "bookfile": ["book_text(book)", "read_book(text)"],
    "exchange": ["content_text(value)", "area_rows(book, area)", "put_rows(book, place, rows)"],
    "promises": ["promise_text(book, promise)", "holds(book, promise)", "broken_at(book, promise)"],
}
ARITHMETIC = ["__eq__", "__add__", "__radd__", "__sub__", "__rsub__", "__mul__", "__rmul__", "__neg__"]
CLASSES = {
    "ratios.Ratio(top, bottom=1)": ARITHMETIC + ["inverse()", "power(exponent)", "sign()", "floor()", "compare(other)",
                                                 "__str__"],
    "polys.Poly(parts)": ARITHMETIC + ["degree()", "worth_at(ratio)", "slope()", "plain()", "common(other)",
                                       "without(other)"],
    "points.Point(poly, low, high)": ["__eq__", "compare(other)", "sign_of(poly)", "ratio()", "between(width)",
                                      "digits(places)"],
    "curves.Curve(top, bottom=None)": ARITHMETIC + ["inverse()", "power(exponent)", "is_level()", "worth_at(ratio)"],
    "spans.Span(low, high)": ["__eq__", "has(ratio)", "inner()"],
    "strands.Strand(curve, span)": ARITHMETIC + ["inverse()", "sign()", "floor()", "power(exponent)", "ratio()"],
    "members.Member(point, curve)": ARITHMETIC + ["inverse()", "power(exponent)", "sign()", "floor()", "compare(other)",
                                                  "ratio()", "digits(places)"],
    "values.Fault(kind)": ["__eq__", "__str__"],
    "grids.Grid(rows, corner=None)": ["__eq__", "value_at(row, column)", "one_row(row)", "one_column(column)", "cells()",
                                      "turned()"],
    "formats.Format(text)": ["__eq__"],
    "addresses.Address(row, column, *, fixed_row=False, fixed_column=False, sheet=None)": [
        "__eq__", "pushed(rows, columns)", "bare()"],
    "areas.Area(first, last, *, whole=None)": ["__eq__", "has(address)", "common(other)", "without(other)", "cells()"],
    "book.Book()": ["__eq__", "put(place, content)", "text_of(place)", "value_of(place)", "holding()", "sheets()",
                    "add_sheet(name)", "rename_sheet(name, fresh)", "drop_sheet(name)", "define(name, text)",
                    "undefine(name)", "names()", "copied()"],
    "rowparts.Piece(span, value)": ["__eq__"],
    "rowparts.Edge(point, value)": ["__eq__"],
    "told.Told(book, place, low=None, high=None)": ["pieces(cell)", "value_at(cell, ratio)"],
    "going.Going(book, begin)": ["go(many)", "rounds()", "now_at(place)", "is_still()", "course(place, many)",
                                 "returns(many)"],
    "pivots.Pivot(grid, row_columns, column_columns, measured, measure)": [
        "row_keys()", "column_keys()", "rows_of(row_key, column_key)", "figure(row_key, column_key)", "table()"],
    "desk.Desk(book)": ["current()", "promises()", "do(deed)", "attempt(deeds)", "trial(deeds)", "keep(promise)",
                        "release(promise)", "undo()", "redo()", "changed_by(deeds, place, low=None, high=None)"],
}


def defined_in(module):
    return {node.name for node in ast.parse((PACKAGE / f"{module}.py").read_text()).body
            if isinstance(node, (ast.FunctionDef, ast.ClassDef))}


def arguments_of(call):
    return str(inspect.signature(call)).replace("(self, ", "(").replace("(self)", "()")


class Interface(unittest.TestCase):
    def test_functions(self):
        for module, functions in FUNCTIONS.items():
            for text in functions:
                name = text.partition("(")[0]
                self.assertIn(name, defined_in(module))
                call = getattr(importlib.import_module(f"allinputs.{module}"), name)
                self.assertEqual(name + arguments_of(call), text)

    def test_classes(self):
        for text, methods in CLASSES.items():
            module, _, rest = text.partition(".")
            name, _, _ = rest.partition("(")
            self.assertIn(name, defined_in(module))
            made = getattr(importlib.import_module(f"allinputs.{module}"), name)
            self.assertEqual(name + arguments_of(made.__init__), rest)
            for method in methods:
                word = method.partition("(")[0]
                self.assertIn(word, vars(made), f"{name}.{method}")
                if "(" in method:
                    self.assertEqual(word + arguments_of(vars(made)[word]), method)
