"""Tests of what the document promises over the whole program: 0.4, 0.5, 0.6 and 0.8."""

import copy
import importlib
import inspect
import itertools
import unittest

import spareskept.errors
from spareskept.depths.kernels import kernel_rows
from spareskept.expiry.durable import durable_kernel
from spareskept.queries.select import selected_names
from spareskept.replicas.replica import Replica
from spareskept.rows.rowsets import union_rowsets
from spareskept.service.service import KernelService
from spareskept.stores.store import KernelStore
from spareskept.text.shell import Shell
from tests.queries import QUERIES, expiring_rowsets, live_at, plain_selections, small_rowsets, times_of
from tests.test_interface import CLASSES, INTERFACE
from tests.values import E, FIFTY_DIGITS, Q, R, S, T, check_bool, check_steady, cost_of, nested, random_source

TREE = ('merge', (('leaf', S[:2]), ('merge', (('leaf', S[1:]),))))
WIDE = ('union', (('where', ('not', ('ge', 0, 2)), ('top', ((1, 'asc'),), 2)), ('group', 1, ('hull', 0, 1))))
MARGINS = ((0, 'asc', 1), (1, 'desc', 0))
LATER = (('a', 2, (1,), 9), ('d', 1, (0,), 5))

# A call of each function of the interface: its arguments by position and by keyword.
CALLS = {
    'is_name': (('ann',), {}), 'is_row': ((R[0],), {}), 'is_rowset': ((R,), {}), 'make_rowset': ((R[::-1],), {}),
    'rowset_width': ((R,), {}), 'row_names': ((R,), {}), 'find_row': ((R, 'bob'), {}),
    'remove_rows': ((R, ('bob',)), {}), 'keep_rows': ((R, ('bob', 'ann')), {}), 'total_cost': ((R, ('bob',)), {}),
    'union_rowsets': (((R, (), R[:1]),), {}), 'is_order': ((2, ((1, 'asc'),)), {}),
    'precedes': ((((0, 'asc'),), R[0], R[1]), {}), 'sorted_names': ((R, ((0, 'desc'),)), {}),
    'is_condition': ((2, ('and', (('ge', 0, 1), ('not', ('le', 1, 2))))), {}),
    'satisfies': ((R[0], ('or', (('ge', 0, 1), ('eq', 1, 2)))), {}),
    'top_names': ((R, ((0, 'asc'),)), {'count': 1}),
    'capped_top_names': ((R, ((0, 'asc'),)), {'count': 1, 'column': 0, 'cap': 1}),
    'group_rows': ((R, 1), {}), 'filter_rows': ((R, ('ge', 0, 2)), {}), 'are_margins': ((2, MARGINS), {}),
    'dominates': ((MARGINS, R[0], R[1]), {}), 'dominators': ((R, MARGINS, 'ann'), {}),
    'skyline_names': ((R, MARGINS), {}), 'hull_names': ((E, 0, 1), {}), 'blocking_names': ((E, 0, 1, 'b', (0, 1)), {}),
    'cheapest_direction': ((E, 0, 1, 'b'), {}), 'forest_names': ((E, 0, 1, ((0, 'asc'),)), {}),
    'lighter_edges': ((E, 0, 1, (), 'c'), {}), 'minimum_cut': ((E, 0, 1, (), 'd'), {}),
    'maximum_flow': ((E, 0, 1, (), 'd'), {}), 'is_cut': ((E, 0, 1, (), 'd', ('a', 'c')), {}),
    'is_flow': ((E, 0, 1, (), 'd', ((2, ('c',)), (3, ('a', 'b')))), {}), 'is_table': ((T,), {}),
    'table_choice': ((T, ('b', 'a')), {}), 'find_violation': ((T,), {}),
    'is_violation': ((T, (('a', 'b'), ('b',))), {}),
    'selectable_names': ((T,), {}), 'find_orderings': ((T,), {}), 'are_orderings': ((T, (('b', 'a'),)), {}),
    'table_from_orderings': ((('a', 'b'), ('a', 'b'), (('b', 'a'),)), {}), 'is_query': ((2, WIDE), {}),
    'selected_names': ((R, WIDE), {'deleted': ()}), 'choice_table': ((R, WIDE), {'inner': None}),
    'row_depth': ((R, WIDE, 'ann'), {}), 'row_depths': ((R, WIDE), {}), 'cheapest_exposure': ((R, WIDE, 'ann'), {}),
    'is_exposure': ((R, WIDE, 'ann', ('bob',)), {}), 'kernel_rows': ((R, WIDE), {'budget': 0}),
    'find_barrier': ((S, Q, 'b'), {'budget': 0}), 'is_barrier': ((S, Q, 'b', ('rows', ('a',))), {'budget': 0}),
    'depth_certificate': ((S, Q, 'b'), {'budget': 0}),
    'is_depth_certificate': ((S, Q, 'b', ('hidden', ('rows', ('a',)))), {'budget': 0}),
    'exclusion_set': ((S, Q, ('a', 'b')), {}), 'possible_outcomes': ((S, Q), {'budget': 0}),
    'are_possible_outcomes': ((S, Q, ((('a',), ()),)), {'budget': 0}), 'robust_names': ((S, Q), {'budget': 0}),
    'live_rows': ((S, 5), {}), 'surviving_rows': ((S, 'c'), {}), 'final_depth': ((S, Q, 'c'), {}),
    'durable_kernel': ((S, Q), {'budget': 0}), 'depth_profile': ((S, Q, 'c'), {}),
    'entry_time': ((S, Q, 'c'), {'budget': 0}), 'selection_starts': ((S, Q), {'deleted': ()}),
    'is_merge_tree': ((TREE,), {}), 'tree_rows': ((TREE,), {}), 'root_kernel': ((TREE, Q), {'budget': 0}),
    'transfer_count': ((TREE, Q), {'budget': 0}), 'find_distinction': ((S[:1], S[1:2], Q), {'budget': 0}),
    'is_distinction': ((S[:1], S[1:2], Q, (0, ())), {'budget': 0}), 'format_row': ((R[0],), {}),
    'format_rowset': ((R,), {}), 'format_query': ((WIDE,), {'width': 4}), 'parse_row': (('a 2 1 9',), {}),
    'parse_rowset': (('a 2 1 9 ; b 1 2 5',), {}), 'parse_query': (('top 1 0 asc',), {'width': 4}),
    'KernelStore': ((Q, 2), {'width': 4, 'rowset': (), 'now': 0}), 'Replica': ((Q, 2), {'width': 4}),
    'KernelService': ((Q, 2), {'width': 4}), 'Shell': ((), {}),
}


def store():
    return KernelStore(Q, 9, width=1, rowset=S)


def replica():
    made = Replica(Q, 9, width=1)
    made.receive_message((S, ('b',)))
    return made


def service():
    made = KernelService(Q, 9, width=1)
    made.apply_all(tuple(('insert', row) for row in S))
    return made


def shell():
    made = Shell()
    made.run_all(('service 1 9 top 1 0 asc', 'insert a 2 1 9'))
    return made


# Calls of the methods that take an argument.
METHODS = (
    (store, 'insert', LATER[1]), (store, 'delete', 'a'), (store, 'advance', 5), (store, 'select_without', ('a', 'b')),
    (store, 'with_budget', 3), (store, 'merged', store()), (replica, 'receive', LATER[1]),
    (replica, 'receive_deletion', 'c'), (replica, 'receive_message', (LATER, ('d', 'e'))), (replica, 'deleted_cost', 3),
    (replica, 'is_reliable', 3), (replica, 'select', 3), (service, 'insert', LATER[1]), (service, 'delete', 'a'),
    (service, 'advance', 5), (service, 'apply', ('insert', LATER[1])), (service, 'select_without', ('a', 'b')),
    (service, 'apply_all', (('insert', LATER[1]), ('delete', 'b'), ('advance', 3))), (shell, 'run', 'depth a'),
    (shell, 'run_all', ('select', 'depth a', 'certificate a 3')),
)

ODD = (
    None, True, -1, 3, FIFTY_DIGITS, '', 'zoe', 'asc', (), ('a',), [], ['a'], {'a': 1}, (1, (2,)), (('a', 'b'), ()),
    nested(lambda part: (part,), 20), nested(lambda part: [part], 20), nested(lambda part: ('not', part), 20),
    store(), replica(), service(), shell(),
)


def variants(value):
    """Return values like the value, each with one part replaced, left out or doubled."""
    found = list(ODD)
    if isinstance(value, tuple):
        found.append(list(value))
        for index, part in enumerate(value):
            found += [value[:index] + (other,) + value[index + 1:] for other in variants(part)]
            found += [value[:index] + value[index + 1:], value[:index] + (part,) + value[index:]]
    return found


def functions():
    """Return a dict from each name of the interface to its function or class."""
    modules = {line.partition('(')[0]: module for module, lines in INTERFACE.items() for line in lines}
    modules.update({line.partition('(')[0]: module for module, (line, _) in CLASSES.items()})
    return {name: getattr(importlib.import_module(module), name) for name, module in modules.items()}


FUNCTIONS = functions()
ERRORS = [value for value in vars(spareskept.errors).values() if inspect.isclass(value)]


def told_by(thing):
    """Return all that an object tells of itself without changing; other values as they are."""
    if isinstance(thing, KernelStore):
        return (thing.query(), thing.budget(), thing.now(), thing.rows(), str(thing))
    if isinstance(thing, Replica):
        return (thing.message(), str(thing))
    if isinstance(thing, KernelService):
        return (thing.rows(), thing.now(), thing.log(), thing.spent(), thing.rebuilds(), str(thing))
    return told_by(thing.service()) if isinstance(thing, Shell) else thing


def told_by_all(values):
    return [told_by(value) for value in values]


class InterfaceTest(unittest.TestCase):
    def test_every_function_has_a_call(self):
        self.assertEqual(sorted(CALLS), sorted(FUNCTIONS))
        for name, (arguments, keywords) in CALLS.items():
            parameters = inspect.signature(FUNCTIONS[name]).parameters.values()
            defaults = {each.name: each.default for each in parameters if each.kind == each.KEYWORD_ONLY}
            self.assertEqual(keywords, defaults, name)
            self.assertEqual(len(arguments), len(parameters) - len(defaults), name)

    def test_calls_change_nothing_and_are_steady(self):
        for name, (arguments, keywords) in CALLS.items():
            if name not in ('KernelStore', 'Replica', 'KernelService', 'Shell'):
                check_steady(self, FUNCTIONS[name], *arguments, **keywords)

    def test_keywords_in_any_order_or_left_out(self):
        for name, (arguments, keywords) in CALLS.items():
            expected = FUNCTIONS[name](*arguments, **keywords)
            for count in range(len(keywords) + 1):
                for chosen in itertools.permutations(keywords, count):
                    found = FUNCTIONS[name](*arguments, **{keyword: keywords[keyword] for keyword in chosen})
                    self.assertEqual(found, expected, (name, chosen))
                    self.assertEqual(told_by(found), told_by(expected), (name, chosen))

    def test_other_keywords_in_any_order(self):
        for name, keywords in (
                ('capped_top_names', {'count': 2, 'column': 1, 'cap': 2}),
                ('KernelStore', {'width': 1, 'rowset': S, 'now': 5})):
            arguments = CALLS[name][0]
            results = [FUNCTIONS[name](*arguments, **{keyword: keywords[keyword] for keyword in chosen})
                       for chosen in itertools.permutations(keywords)]
            for found in results:
                self.assertEqual(found, results[0])
            self.assertNotEqual(results[0], FUNCTIONS[name](*arguments))


class AnyValueTest(unittest.TestCase):
    def call(self, function, arguments, keywords):
        """Call the function and check that it raises at most an error of the package and changes no argument."""
        before = told_by_all(list(arguments) + list(keywords.values()))
        try:
            return function(*arguments, **keywords)
        except tuple(ERRORS) as error:
            self.assertIn(error.__class__, ERRORS[1:])
            return None
        finally:
            self.assertEqual(told_by_all(list(arguments) + list(keywords.values())), before)

    def test_functions(self):
        for name, (arguments, keywords) in CALLS.items():
            parameters = list(inspect.signature(FUNCTIONS[name]).parameters)
            for index, argument in enumerate(arguments):
                for value in variants(argument):
                    changed = arguments[:index] + (value,) + arguments[index + 1:]
                    found = self.call(FUNCTIONS[name], changed, keywords)
                    if name.startswith(('is_', 'are_')) and parameters[index] == 'value':
                        check_bool(self, found)
            for keyword, argument in keywords.items():
                for value in variants(argument):
                    self.call(FUNCTIONS[name], arguments, {**keywords, keyword: value})

    def test_methods(self):
        for make, name, argument in METHODS:
            for value in variants(argument):
                thing = make()
                before = copy.deepcopy(told_by(thing))
                try:
                    getattr(thing, name)(value)
                except tuple(ERRORS) as error:
                    self.assertIn(error.__class__, ERRORS[1:])
                    self.assertTrue(thing == make() or make == shell and name == 'run_all')
                    self.assertTrue(told_by(thing) == before or make == shell and name == 'run_all')

    def test_comparisons(self):
        things = [make() for make in (store, replica, service, shell)]
        for index, thing in enumerate(things):
            for value in ODD:
                expected = isinstance(value, thing.__class__) and told_by(value) == told_by(thing)
                self.assertIs(thing == value, expected)
                self.assertIs(thing != value, not expected)
            for other in things[:index] + things[index + 1:]:
                self.assertIs(thing == other, False)


class GuaranteeTest(unittest.TestCase):
    """0.8, for every kind of query."""

    def test_persistence_and_the_outcast_rule(self):
        for query in QUERIES:
            for rowset in small_rowsets(query, 5)[1:]:
                selections = plain_selections(rowset, query)
                for larger, chosen in selections.items():
                    self.assertEqual(selected_names(larger, query), chosen)
                    for smaller in selections:
                        names = {row[0] for row in smaller}
                        if names <= {row[0] for row in larger}:
                            self.assertTrue(set(chosen) & names <= set(selections[smaller]))
                            self.assertTrue(not set(chosen) <= names or selections[smaller] == chosen)

    def merge(self, source, parts, reduce):
        """Merge the parts in a random tree, reducing each union; return what is left."""
        parts = [reduce(part) for part in parts]
        while len(parts) > 1:
            chosen = source.sample(range(len(parts)), min(len(parts), source.randint(2, 3)))
            united = union_rowsets(tuple(parts[index] for index in chosen))
            parts = [part for index, part in enumerate(parts) if index not in chosen] + [reduce(united)]
        return parts[0]

    def test_kernels_merged_in_any_tree(self):
        for query in QUERIES:
            for budget in (0, 3):
                source = random_source('merge', query, budget)
                rowset = expiring_rowsets(query, 9)[1]
                parts = [tuple(row for row in rowset if source.randrange(2)) for _ in range(5)] + [rowset[:5],
                        rowset[5:]]
                self.assertEqual(
                    self.merge(source, parts, lambda rows: kernel_rows(rows, query, budget=budget)),
                    kernel_rows(rowset, query, budget=budget))
                self.assertEqual(
                    self.merge(source, parts, lambda rows: durable_kernel(rows, query, budget=budget)),
                    durable_kernel(rowset, query, budget=budget))

    def test_every_kernel_row_is_needed(self):
        for query in QUERIES:
            rowset = expiring_rowsets(query, 5)[1]
            selections = plain_selections(rowset, query)
            for budget in (0, 2):
                rests = [rest for rest in selections if cost_of(rowset) - cost_of(rest) <= budget]
                for times, reduce in (([0], kernel_rows), (times_of(rowset), durable_kernel)):
                    kernel = reduce(rowset, query, budget=budget)
                    for row in kernel:
                        self.assertTrue(any(
                            selections[live_at([other for other in rest if other in kernel and other != row], now)]
                            != selections[live_at(rest, now)] for rest in rests for now in times))


if __name__ == '__main__':
    unittest.main()
