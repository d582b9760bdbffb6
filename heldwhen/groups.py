"""Rows counted and summed by columns."""

from heldwhen.algebra import numbers_in
from heldwhen.tables import table_of
from heldwhen.tallies import plots_by_weight


def weighed_rows(table, wanted, weight_of):
    groups = {}
    for row, plot in table:
        groups.setdefault(numbers_in(row, wanted), []).append((plot, weight_of(row)))
    pairs = []
    for row in groups:
        for weight, plot in plots_by_weight(groups[row]).items():
            pairs.append((row + (weight,), plot))
    return table_of(pairs)


def count_rows(table, wanted):
    return weighed_rows(table, wanted, lambda row: 1)


def sum_rows(table, wanted, column):
    return weighed_rows(table, wanted, lambda row: row[column])
