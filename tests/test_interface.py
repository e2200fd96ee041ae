"""Tests that the interface exists as the document lists it."""

import importlib
import inspect
import unittest

INTERFACE = {
    'spareskept.rows.rowsets': (
        'is_name(value)', 'is_row(value)', 'is_rowset(value)', 'make_rowset(rows)', 'rowset_width(rowset)',
        'row_names(rowset)', 'find_row(rowset, name)', 'remove_rows(rowset, names)', 'keep_rows(rowset, names)',
        'total_cost(rowset, names)', 'union_rowsets(rowsets)',
    ),
    'spareskept.rows.orders': (
        'is_order(width, value)', 'precedes(order, first, second)', 'sorted_names(rowset, order)',
    ),
    'spareskept.rows.conditions': ('is_condition(width, value)', 'satisfies(row, condition)'),
    'spareskept.selection.top': (
        'top_names(rowset, order, *, count=1)', 'capped_top_names(rowset, order, *, count=1, column=0, cap=1)',
        'group_rows(rowset, column)', 'filter_rows(rowset, condition)',
    ),
    'spareskept.selection.skyline': (
        'are_margins(width, value)', 'dominates(margins, first, second)', 'dominators(rowset, margins, name)',
        'skyline_names(rowset, margins)',
    ),
    'spareskept.selection.hull': (
        'hull_names(rowset, x, y)', 'blocking_names(rowset, x, y, name, direction)',
        'cheapest_direction(rowset, x, y, name)',
    ),
    'spareskept.selection.forest': (
        'forest_names(rowset, a, b, order)', 'lighter_edges(rowset, a, b, order, name)',
    ),
    'spareskept.selection.cuts': (
        'minimum_cut(rowset, a, b, order, name)', 'maximum_flow(rowset, a, b, order, name)',
        'is_cut(rowset, a, b, order, name, value)', 'is_flow(rowset, a, b, order, name, value)',
    ),
    'spareskept.tables.tables': (
        'is_table(value)', 'table_choice(table, names)', 'find_violation(table)', 'is_violation(table, value)',
        'selectable_names(table)',
    ),
    'spareskept.tables.orderings': (
        'find_orderings(table)', 'are_orderings(table, value)', 'table_from_orderings(names, selectable, orderings)',
    ),
    'spareskept.queries.forms': ('is_query(width, value)',),
    'spareskept.queries.select': ('selected_names(rowset, query, *, deleted=())',),
    'spareskept.queries.choices': ('choice_table(rowset, query, *, inner=None)',),
    'spareskept.depths.depths': (
        'row_depth(rowset, query, name)', 'row_depths(rowset, query)', 'cheapest_exposure(rowset, query, name)',
        'is_exposure(rowset, query, name, value)',
    ),
    'spareskept.depths.kernels': ('kernel_rows(rowset, query, *, budget=0)',),
    'spareskept.certificates.barriers': (
        'find_barrier(rowset, query, name, *, budget=0)', 'is_barrier(rowset, query, name, value, *, budget=0)',
    ),
    'spareskept.certificates.certificates': (
        'depth_certificate(rowset, query, name, *, budget=0)',
        'is_depth_certificate(rowset, query, name, value, *, budget=0)',
    ),
}


class InterfaceTest(unittest.TestCase):
    def test_functions(self):
        for module_name, lines in INTERFACE.items():
            module = importlib.import_module(module_name)
            for line in lines:
                with self.subTest(line=line):
                    name = line.partition('(')[0]
                    function = getattr(module, name)
                    self.assertEqual(name + str(inspect.signature(function)), line)
                    self.assertEqual(function.__module__, module_name)


if __name__ == '__main__':
    unittest.main()
