"""Filters: the rows of grids that pass tests."""

from itertools import combinations

from allinputs.alikerows import first_alike_rows
from allinputs.checks import check_list, check_range, check_whole, is_integer
from allinputs.criteria import criterion_of, is_met
from allinputs.errors import BadValue
from allinputs.grids import check_grid
from allinputs.shaping import arranged_by
from allinputs.values import Fault, compare_numbers, is_number, is_value

MOST_TESTS = 8


def kept(grid, tests):
    """The list of the rows that pass all tests."""
    check_grid(grid)
    _check_tests(grid, tests)
    return _numbers_of_rows(_passed(grid, tests))


def barring(grid, tests, row):
    """The list of the tests that a row does not pass."""
    check_grid(grid)
    _check_tests(grid, tests)
    check_range(row, 1, grid.height)
    return [at for at, is_right in enumerate(_passed_by(grid.rows[row - 1], _criteria_of(tests))) if not is_right]


def selectable(grid, tests, column):
    """The list of the values of a column in the rows that pass all tests of other columns, sorted, each once."""
    check_grid(grid)
    _check_tests(grid, tests)
    check_range(column, 1, grid.width)
    rows = _numbers_of_rows(_passed(grid, [test for test in tests if test[0] != column]))
    values = [(grid.rows[row - 1][column - 1], row) for row in rows]
    return [row[0] for row in first_alike_rows([(value,) for value, _ in arranged_by(values, False)])]


def fewest_lifted(grid, tests, many):
    """The first of the shortest lists of tests without which so many rows are kept; None if there are fewer rows."""
    check_grid(grid)
    _check_tests(grid, tests)
    check_whole(many)
    passed = _passed(grid, tests)
    for size in range(len(tests) + 1):
        for lifted in combinations(range(len(tests)), size):
            rows = [row for row in passed if all([row[at] or at in lifted for at in range(len(tests))])]
            if len(rows) >= many:
                return list(lifted)
    return None


def top_rows(grid, column, many):
    """The list of the rows with a number in a column than which fewer than so many rows have a greater one."""
    check_grid(grid)
    check_range(column, 1, grid.width)
    check_whole(many)
    values = [row[column - 1] for row in grid.rows]
    numbers = [value for value in values if is_number(value)]
    return [at + 1 for at, value in enumerate(values) if is_number(value) and _many_above(numbers, value) < many]


def _many_above(numbers, number):
    """How many of some numbers are greater than another one."""
    return len([other for other in numbers if compare_numbers(other, number) > 0])


def _check_tests(grid, tests):
    """A list of at most 8 pairs of a column of a grid and a criterion."""
    check_list(tests)
    for test in tests:
        if not _is_test(grid, test):
            raise BadValue(test)
    if len(tests) > MOST_TESTS:
        raise BadValue(tests)


def _is_test(grid, test):
    """Whether something is a pair of a column of a grid and a criterion."""
    if not isinstance(test, (list, tuple)) or len(test) != 2:
        return False
    if not is_integer(test[0]) or test[0] < 1 or test[0] > grid.width:
        return False
    return is_value(test[1]) and not isinstance(test[1], Fault)


def _criteria_of(tests):
    """The list of the pairs of the columns, from 0 on, and the criteria of some tests."""
    return [(column - 1, criterion_of(criterion)) for column, criterion in tests]


def _passed(grid, tests):
    """For each row of a grid the list of whether it passes the tests."""
    criteria = _criteria_of(tests)
    return [_passed_by(row, criteria) for row in grid.rows]


def _passed_by(row, criteria):
    """The list of whether a row passes tests, one by one."""
    return [is_met(row[at], criterion) for at, criterion in criteria]


def _numbers_of_rows(passed):
    """The list of the numbers of the rows that pass all tests."""
    return [at + 1 for at, row in enumerate(passed) if all(row)]
