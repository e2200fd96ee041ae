"""Tests that the interface exists as the document lists it."""

import importlib
import inspect
import unittest

INTERFACE = {
    'spareskept.rows.rowsets': (
        'is_name(value)', 'is_row(value)', 'is_rowset(value)', 'make_rowset(rows)', 'rowset_width(rowset)',
        'row_names(rowset)', 'find_row(rowset, name)', 'remove_rows(rowset, names)', 'keep_rows(rowset, names)',
        'total_cost(rowset, names)', 'union_rowsets(rowsets)',
    ),
    'spareskept.rows.orders': (
        'is_order(width, value)', 'precedes(order, first, second)', 'sorted_names(rowset, order)',
    ),
    'spareskept.rows.conditions': ('is_condition(width, value)', 'satisfies(row, condition)'),
}


class InterfaceTest(unittest.TestCase):
    def test_functions(self):
        for module_name, lines in INTERFACE.items():
            module = importlib.import_module(module_name)
            for line in lines:
                with self.subTest(line=line):
                    name = line.partition('(')[0]
                    function = getattr(module, name)
                    self.assertEqual(name + str(inspect.signature(function)), line)
                    self.assertEqual(function.__module__, module_name)


if __name__ == '__main__':
    unittest.main()
