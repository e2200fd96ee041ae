"""Tests that the interface exists as the document lists it."""

import importlib
import inspect
import unittest

INTERFACE = {
    'spareskept.rows.rowsets': (
        'is_name(value)', 'is_row(value)', 'is_rowset(value)', 'make_rowset(rows)', 'rowset_width(rowset)',
        'row_names(rowset)', 'find_row(rowset, name)', 'remove_rows(rowset, names)', 'keep_rows(rowset, names)',
        'total_cost(rowset, names)', 'union_rowsets(rowsets)',
    ),
    'spareskept.rows.orders': (
        'is_order(width, value)', 'precedes(order, first, second)', 'sorted_names(rowset, order)',
    ),
    'spareskept.rows.conditions': ('is_condition(width, value)', 'satisfies(row, condition)'),
    'spareskept.selection.top': (
        'top_names(rowset, order, *, count=1)', 'capped_top_names(rowset, order, *, count=1, column=0, cap=1)',
        'group_rows(rowset, column)', 'filter_rows(rowset, condition)',
    ),
    'spareskept.selection.skyline': (
        'are_margins(width, value)', 'dominates(margins, first, second)', 'dominators(rowset, margins, name)',
        'skyline_names(rowset, margins)',
    ),
    'spareskept.selection.hull': (
        'hull_names(rowset, x, y)', 'blocking_names(rowset, x, y, name, direction)',
        'cheapest_direction(rowset, x, y, name)',
    ),
    'spareskept.selection.forest': (
        'forest_names(rowset, a, b, order)', 'lighter_edges(rowset, a, b, order, name)',
    ),
    'spareskept.selection.cuts': (
        'minimum_cut(rowset, a, b, order, name)', 'maximum_flow(rowset, a, b, order, name)',
        'is_cut(rowset, a, b, order, name, value)', 'is_flow(rowset, a, b, order, name, value)',
    ),
    'spareskept.tables.tables': (
        'is_table(value)', 'table_choice(table, names)', 'find_violation(table)', 'is_violation(table, value)',
        'selectable_names(table)',
    ),
    'spareskept.tables.orderings': (
        'find_orderings(table)', 'are_orderings(table, value)', 'table_from_orderings(names, selectable, orderings)',
    ),
    'spareskept.queries.forms': ('is_query(width, value)',),
    'spareskept.queries.select': ('selected_names(rowset, query, *, deleted=())',),
    'spareskept.queries.choices': ('choice_table(rowset, query, *, inner=None)',),
    'spareskept.depths.depths': (
        'row_depth(rowset, query, name)', 'row_depths(rowset, query)', 'cheapest_exposure(rowset, query, name)',
        'is_exposure(rowset, query, name, value)',
    ),
    'spareskept.depths.kernels': ('kernel_rows(rowset, query, *, budget=0)',),
    'spareskept.certificates.barriers': (
        'find_barrier(rowset, query, name, *, budget=0)', 'is_barrier(rowset, query, name, value, *, budget=0)',
    ),
    'spareskept.certificates.certificates': (
        'depth_certificate(rowset, query, name, *, budget=0)',
        'is_depth_certificate(rowset, query, name, value, *, budget=0)',
    ),
    'spareskept.deletions.exclusion': ('exclusion_set(rowset, query, names)',),
    'spareskept.deletions.outcomes': (
        'possible_outcomes(rowset, query, *, budget=0)', 'are_possible_outcomes(rowset, query, value, *, budget=0)',
        'robust_names(rowset, query, *, budget=0)',
    ),
    'spareskept.expiry.durable': (
        'live_rows(rowset, now)', 'surviving_rows(rowset, name)', 'final_depth(rowset, query, name)',
        'durable_kernel(rowset, query, *, budget=0)', 'depth_profile(rowset, query, name)',
        'entry_time(rowset, query, name, *, budget=0)', 'selection_starts(rowset, query, *, deleted=())',
    ),
    'spareskept.stores.trees': (
        'is_merge_tree(value)', 'tree_rows(tree)', 'root_kernel(tree, query, *, budget=0)',
        'transfer_count(tree, query, *, budget=0)', 'find_distinction(one, other, query, *, budget=0)',
        'is_distinction(one, other, query, value, *, budget=0)',
    ),
    'spareskept.text.formats': (
        'format_row(row)', 'format_rowset(rowset)', 'format_query(query, *, width=4)', 'parse_row(text)',
        'parse_rowset(text)', 'parse_query(text, *, width=4)',
    ),
}

CLASSES = {
    'spareskept.stores.store': ('KernelStore(query, budget, *, width=4, rowset=(), now=0)', (
        'query(self)', 'budget(self)', 'now(self)', 'rows(self)', 'select(self)', '__len__(self)', '__str__(self)',
        '__eq__(self, other)', 'insert(self, row)', 'delete(self, name)', 'advance(self, now)',
        'select_without(self, names)', 'with_budget(self, budget)', 'merged(self, other)',
    )),
    'spareskept.replicas.replica': ('Replica(query, budget, *, width=4)', (
        'rows(self)', 'deleted(self)', '__len__(self)', '__str__(self)', '__eq__(self, other)', 'receive(self, row)',
        'receive_deletion(self, name)', 'message(self)', 'receive_message(self, message)', 'deleted_cost(self, now)',
        'is_reliable(self, now)', 'select(self, now)',
    )),
    'spareskept.service.service': ('KernelService(query, budget, *, width=4)', (
        'rows(self)', 'budget(self)', 'now(self)', 'rebuilds(self)', 'spent(self)', 'log(self)', '__len__(self)',
        '__str__(self)', '__eq__(self, other)', 'insert(self, row)', 'delete(self, name)', 'advance(self, now)',
        'apply(self, operation)', 'apply_all(self, operations)', 'undo(self)', 'select(self)',
        'select_without(self, names)', 'cached_rows(self)', 'remaining(self)',
    )),
    'spareskept.text.shell': ('Shell()', (
        'service(self)', '__len__(self)', '__str__(self)', '__eq__(self, other)', 'run(self, command)',
        'run_all(self, commands)',
    )),
}

CONSTANTS = {
    'spareskept.rows.rowsets': {
        'MAX_ROWS': 60, 'MAX_WIDTH': 4, 'MAX_COST': 10 ** 6, 'MAX_VALUE': 10 ** 9, 'MAX_EXPIRY': 10 ** 9},
    'spareskept.tables.tables': {'MAX_NAMES': 6},
    'spareskept.queries.forms': {'MAX_NESTING': 4},
    'spareskept.depths.kernels': {'MAX_BUDGET': 10 ** 9},
    'spareskept.deletions.outcomes': {'MAX_OUTCOMES': 400},
    'spareskept.expiry.durable': {'MAX_TIME': 10 ** 9},
}


class InterfaceTest(unittest.TestCase):
    def test_functions(self):
        for module_name, lines in INTERFACE.items():
            module = importlib.import_module(module_name)
            for line in lines:
                with self.subTest(line=line):
                    name = line.partition('(')[0]
                    function = getattr(module, name)
                    self.assertEqual(name + str(inspect.signature(function)), line)
                    self.assertEqual(function.__module__, module_name)

    def test_classes(self):
        for module_name, (line, methods) in CLASSES.items():
            name = line.partition('(')[0]
            listed = getattr(importlib.import_module(module_name), name)
            self.assertEqual(name + str(inspect.signature(listed)), line)
            self.assertEqual(listed.__module__, module_name)
            for method in methods:
                with self.subTest(method=method):
                    defined = vars(listed)[method.partition('(')[0]]
                    self.assertEqual(defined.__name__ + str(inspect.signature(defined)), method)

    def test_constants(self):
        for module_name, constants in CONSTANTS.items():
            module = importlib.import_module(module_name)
            for name, value in constants.items():
                self.assertEqual(getattr(module, name), value)


if __name__ == '__main__':
    unittest.main()
