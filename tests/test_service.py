"""Tests of spareskept.service.service: 15.1 and 15.2."""

import copy
import unittest

from spareskept.errors import BudgetExceeded, InvalidNumber, InvalidOperation, InvalidQuery, InvalidRow, NameConflict
from spareskept.errors import TooMany, UnknownName
from spareskept.expiry.durable import durable_kernel
from spareskept.queries.select import selected_names
from spareskept.service.service import KernelService
from tests.queries import LARGE, QUERIES, live_at, plain_durable, plain_names
from tests.test_depths import rows_of, without
from tests.test_outcomes import BUDGET_CASES, EACH, different_rows
from tests.test_replica import fed
from tests.test_select import DELETED_CASES, QUERY_CASES
from tests.test_store import NOT_NAMES, NOT_ROWS, WIDTH_CASES, made
from tests.values import NOT_ROWSETS, ODD_VALUES, Q, R, S
from tests.values import check_errors, check_raises, cost_of, numbers_outside, random_rowset, random_source, replaced

A, B, C = S
INSERTS = tuple(('insert', row) for row in S)


def plain_state(service):
    """Return what can be told of the service without rebuilding its cache."""
    return (service.rows(), service.budget(), service.now(), service.rebuilds(), service.spent(), service.log(),
            len(service), str(service))


def whole_state(service):
    """Return also what the cache holds; this rebuilds a stale one, so a copy of the service is asked."""
    asked = copy.deepcopy(service)
    return plain_state(service) + (asked.cached_rows(), asked.remaining(), asked.select(), asked.rebuilds())


def serving(rows=S, budget=2, *, query=Q, width=1):
    service = KernelService(query, budget, width=width)
    for row in rows:
        service.insert(row)
    return service


class Model:
    """A service in the words of 15.1, whose cache is the durable kernel of all live rows of the archive."""

    def __init__(self, query, budget):
        self.query, self.budget, self.earlier = query, budget, []
        self.state = {'rows': (), 'now': 0, 'rebuilds': 0, 'spent': 0, 'log': (), 'left': budget, 'stale': False}

    def cached(self):
        return durable_kernel(live_at(self.state['rows'], self.state['now']), self.query, budget=self.state['left'])

    def perform(self, operations):
        self.earlier.append(dict(self.state))
        for operation in operations:
            word, content = operation
            if word == 'insert':
                self.state['rows'] = tuple(sorted(self.state['rows'] + (content,)))
            elif word == 'delete':
                self.delete(content)
            else:
                self.state['now'] = content
            self.state['log'] += (operation,)

    def delete(self, name):
        stored = () if self.state['stale'] else rows_of(self.cached(), (name,))
        self.state['rows'] = without(self.state['rows'], (name,))
        for row in stored:
            self.state['spent'] += row[1]
            self.state['stale'] = row[1] > self.state['left']
            self.state['left'] -= 0 if self.state['stale'] else row[1]

    def undo(self):
        self.state = self.earlier.pop()

    def rebuild(self):
        if self.state['stale']:
            self.state.update(stale=False, left=self.budget, rebuilds=self.state['rebuilds'] + 1)


class CheckedTest(unittest.TestCase):
    def check_refused(self, error, service, method, *arguments):
        """Check that the call raises this error and leaves the service as it was."""
        before = whole_state(service)
        check_raises(self, error, getattr(service, method), *arguments)
        self.assertEqual(whole_state(service), before)

    def check_model(self, service, model):
        state = model.state
        self.assertEqual(plain_state(service)[:6], (
            state['rows'], model.budget, state['now'], state['rebuilds'], state['spent'], state['log']))
        self.assertEqual(len(service), len(state['rows']))
        self.assertEqual(str(service), f'service with {len(state["rows"])} rows, {state["rebuilds"]} rebuilds')
        self.assertLessEqual(service.rebuilds(), service.spent() // (service.budget() + 1))

    def check_cache(self, service, model, source):
        """Ask the service in one of the four ways, which rebuilds a stale cache."""
        model.rebuild()
        kernel, left = model.cached(), model.state['left']
        way = source.randrange(4)
        live = live_at(model.state['rows'], model.state['now'])
        if way == 0:
            self.assertEqual(service.select(), plain_names(live, model.query))
        elif way == 1:
            self.assertEqual(service.cached_rows(), kernel)
        elif way == 2:
            self.assertEqual(service.remaining(), left)
        else:
            names = tuple(row[0] for row in kernel[:2] if row[1] <= left // 2)
            self.assertEqual(service.select_without(names), plain_names(without(live, names), model.query))
        self.check_model(service, model)


class MakingTest(CheckedTest):
    def test_a_new_service(self):
        for service in (KernelService(Q, 2), KernelService(Q, 2, width=4), KernelService(Q, 2, width=1)):
            self.assertEqual(plain_state(service), (
                (), 2, 0, 0, 0, (), 0, 'service with 0 rows, 0 rebuilds'))
            self.assertEqual([service.cached_rows(), service.remaining(), service.select()], [(), 2, ()])
        self.assertEqual(KernelService(Q, 2), KernelService(Q, 2, width=4))
        self.assertRaises(TypeError, KernelService, Q, 2, 1)

    def test_errors(self):
        check_errors(self, KernelService, {0: Q, 1: 2, 'width': 2}, [
            ('width', WIDTH_CASES), (0, QUERY_CASES), (1, BUDGET_CASES)])
        wide = ('hull', 0, 3)
        check_raises(self, InvalidQuery, KernelService, wide, -1, width=3)
        check_raises(self, (InvalidNumber, 'value', -1), KernelService, wide, -1)

    def test_equality(self):
        one = serving()
        other = serving((C, A), 2)
        self.assertIs(one == other, False)
        other.insert(B)
        # The log, the cache and what was spent play no part.
        other.insert(('d', 1, (0,), 9))
        other.delete('d')
        self.assertIs(one == other, True)
        self.assertIs(one != other, False)
        self.assertNotEqual(one.log(), other.log())
        self.assertNotEqual(one.spent(), other.spent())
        later = serving()
        later.advance(1)
        for different in (serving(S[:2]), serving(budget=3), serving(query=('top', ((0, 'asc'),), 2)), later,
                          serving((A, B, ('c', 3, (3,), 8))), KernelService(Q, 2)):
            for first, second in ((one, different), (different, one)):
                self.assertIs(first == second, False)
                self.assertIs(first != second, True)
        self.assertIs(KernelService(Q, 2, width=1) == KernelService(Q, 2, width=2), False)

    def test_any_value(self):
        for service in (serving(), KernelService(Q, 2)):
            for value in ODD_VALUES + NOT_ROWSETS[:4] + (S, made(), fed(), str(service), [service], service.log()):
                self.assertIs(service == value, False)
                self.assertIs(service != value, True)


class OperationsTest(CheckedTest):
    def test_inserted_rows(self):
        service = KernelService(Q, 1, width=1)
        for number, row in enumerate((C, B, A), 1):
            self.assertIsNone(service.insert(row))
            self.assertEqual(len(service), number)
        self.assertEqual(service.rows(), S)
        self.assertEqual(service.cached_rows(), (A,))
        self.assertEqual(service.log(), (('insert', C), ('insert', B), ('insert', A)))

    def test_expired_rows(self):
        service = serving()
        service.advance(9)
        self.assertEqual([service.rows(), service.cached_rows(), service.select()], [S, (), ()])
        for row in (('d', 1, (0,), 9), ('e', 1, (0,), 1)):
            self.assertIsNone(service.insert(row))
            self.assertEqual(service.log()[-1], ('insert', row))
        self.assertEqual(service.rows(), S + (('d', 1, (0,), 9), ('e', 1, (0,), 1)))
        self.assertEqual(service.cached_rows(), ())
        self.check_refused((NameConflict, 'name', 'e'), service, 'insert', ('e', 1, (0,), 99))
        self.check_refused((NameConflict, 'name', 'a'), service, 'insert', A)
        service.delete('e')
        self.assertEqual((service.spent(), service.log()[-1]), (0, ('delete', 'e')))
        service.undo()
        service.undo()
        self.assertEqual(service.rows(), S + (('d', 1, (0,), 9),))

    def test_errors_of_insert(self):
        service = serving()
        for value in NOT_ROWS + ODD_VALUES + R + (made(), service):
            self.check_refused(InvalidRow, service, 'insert', value)
            self.check_refused(InvalidRow, service, 'apply', ('insert', value))
        for row in S + (('a', 1, (1,), 9), ('b', 1, (2,), 1)):
            self.check_refused((NameConflict, 'name', row[0]), service, 'insert', row)
        full = serving(different_rows(60), 0, query=EACH)
        self.check_refused((TooMany, 'limit', 60), full, 'insert', ('zz', 1, (77,), 9))
        self.check_refused((TooMany, 'limit', 60), full, 'insert', ('zz', 1, (77,), 1))
        self.check_refused((NameConflict, 'name', 'ab'), full, 'insert', ('ab', 1, (77,), 1))
        self.check_refused(InvalidRow, full, 'insert', ('ab', 1, (77, 7), 1))
        full.delete('ab')
        full.insert(('zz', 1, (77,), 9))
        self.assertEqual(len(full), 60)
        self.check_refused((TooMany, 'limit', 60), full, 'insert', ('ab', 1, (77,), 1))

    def test_errors_of_delete(self):
        service = serving()
        for value in NOT_NAMES + ODD_VALUES + ('d', 'zoe', 'aa', made(), service):
            self.check_refused((UnknownName, 'name', value), service, 'delete', value)
            self.check_refused((UnknownName, 'name', value), service, 'apply', ('delete', value))
        service.delete('a')
        self.check_refused((UnknownName, 'name', 'a'), service, 'delete', 'a')
        check_raises(self, (UnknownName, 'name', 'a'), KernelService(Q, 2).delete, 'a')

    def test_errors_of_advance(self):
        service = serving()
        for now in (0, 4, 4, 10 ** 9):
            self.assertIsNone(service.advance(now))
            self.assertEqual((service.now(), service.log()[-1]), (now, ('advance', now)))
            for value in numbers_outside(now, 10 ** 9):
                self.check_refused((InvalidNumber, 'value', value), service, 'advance', value)
                self.check_refused((InvalidNumber, 'value', value), service, 'apply', ('advance', value))

    def test_apply(self):
        service = KernelService(Q, 2, width=1)
        for operation in INSERTS + (('advance', 1), ('delete', 'a')):
            self.assertIsNone(service.apply(operation))
        other = serving()
        other.advance(1)
        other.delete('a')
        self.assertEqual(whole_state(service), whole_state(other))
        for value in ODD_VALUES + (('insert',), ('insert', A, A), ['insert', A], ('Insert', A), ('select', ()), INSERTS,
                                   (('insert',), A), (['insert'], A), ('undo', 1), ('advance',), ('', 1), 'insert',
                                   {'insert': A}, (None, A), (made(), A), service):
            self.check_refused(InvalidOperation, service, 'apply', value)

    def test_a_deleted_name_comes_back_with_another_row(self):
        for budget in (0, 1, 2, 9):
            service = serving(budget=budget)
            for name, row in (('a', ('a', 5, (4,), 3)), ('b', ('b', 2, (0,), 4)), ('c', ('c', 1, (2,), 99))):
                service.delete(name)
                service.insert(row)
                self.assertEqual(service.select(), plain_names(service.rows(), Q))
            kernel = durable_kernel(service.rows(), Q, budget=service.remaining())
            self.assertEqual(service.cached_rows(), kernel)


class CacheTest(CheckedTest):
    def test_by_hand(self):
        service = serving(budget=2)
        self.assertEqual((service.cached_rows(), service.remaining(), service.spent()), (S, 2, 0))
        service.delete('a')
        self.assertEqual((service.spent(), service.rebuilds()), (2, 0))
        self.assertEqual((service.cached_rows(), service.remaining(), service.select()), ((B, C), 0, ('b',)))
        # The row of c has depth 0 when b expires, so it is stored, and the budget is used up.
        service.delete('c')
        self.assertEqual((service.spent(), service.rebuilds()), (5, 0))
        service.insert(('d', 1, (9,), 9))
        service.delete('d')
        service.advance(1)
        self.assertEqual((service.spent(), service.rebuilds()), (5, 0))
        self.assertEqual((service.select(), service.rebuilds()), (('b',), 1))
        self.assertEqual((service.cached_rows(), service.remaining(), service.rebuilds()), ((B,), 2, 1))

    def test_what_is_not_stored_costs_nothing(self):
        service = serving(budget=1)
        self.assertEqual(service.cached_rows(), (A,))
        service.delete('b')
        service.delete('c')
        self.assertEqual((service.spent(), service.remaining(), service.rebuilds()), (0, 1, 0))
        service.delete('a')
        self.assertEqual((service.spent(), service.rebuilds(), service.rows()), (2, 0, ()))
        self.assertEqual((service.remaining(), service.rebuilds()), (1, 1))

    def test_costs_at_the_remaining_budget(self):
        for budget, left, rebuilds in ((2, 0, 0), (3, 1, 0), (1, 1, 1), (0, 0, 1)):
            service = serving(budget=budget)
            service.delete('a')
            self.assertEqual((service.spent(), service.rebuilds()), (2, 0))
            self.assertEqual((service.remaining(), service.rebuilds()), (left, rebuilds))

    def stale(self):
        service = serving(budget=1)
        service.delete('a')
        return service

    def test_four_methods_rebuild_a_stale_cache_once(self):
        for method in ('select', 'select_without', 'cached_rows', 'remaining'):
            service = self.stale()
            self.assertEqual(service.rebuilds(), 0)
            for _ in range(3):
                getattr(service, method)(*((('b',),) if method == 'select_without' else ()))
                self.assertEqual(service.rebuilds(), 1)
            for other in ('select', 'cached_rows', 'remaining'):
                getattr(service, other)()
                self.assertEqual(service.rebuilds(), 1)
            service.delete('b')
            self.assertEqual((service.spent(), service.rebuilds()), (3, 1))

    def test_nothing_else_rebuilds_it(self):
        service = self.stale()
        service.insert(('d', 1, (0,), 9))
        service.advance(1)
        service.delete('d')
        service.apply_all((('insert', ('d', 1, (0,), 9)), ('delete', 'd')))
        service.undo()
        service.log(), service.rows(), service.now(), service.budget(), service.spent(), str(service), len(service)
        self.assertFalse(service == serving())
        self.assertEqual((service.rebuilds(), service.spent()), (0, 2))
        for name in ('b', 'c'):
            service.delete(name)
        self.assertEqual((service.rebuilds(), service.spent()), (0, 2))

    def test_an_error_does_not_rebuild_it(self):
        service = self.stale()
        for names, error in ((('a',), (UnknownName, 'name', 'a')), (None, (UnknownName, 'name', None)),
                             (('b', 'c'), (BudgetExceeded, 'cost', 4)), (('c',), (BudgetExceeded, 'cost', 3)),
                             (['b'], (UnknownName, 'name', ['b']))):
            self.check_refused(error, service, 'select_without', names)
            self.assertEqual(service.rebuilds(), 0)
        self.check_refused(InvalidRow, service, 'insert', None)
        self.check_refused((UnknownName, 'name', 'a'), service, 'delete', 'a')
        self.check_refused(InvalidOperation, service, 'apply_all', None)
        self.assertEqual(service.rebuilds(), 0)
        self.assertEqual(service.select_without(('b',)), ('c',))
        self.assertEqual(service.rebuilds(), 1)

    def test_select_without(self):
        service = serving(R, 9, width=2)
        self.assertEqual(len(service.cached_rows()), 3)
        for names, error in DELETED_CASES:
            self.check_refused(error, service, 'select_without', names)
        service = serving(budget=3)
        for names, selected in (((), ('a',)), (('a',), ('b',)), (('b', 'a', 'b'), ('c',)), (('c',), ('a',))):
            self.assertEqual(service.select_without(names), selected)
        for names, cost in ((('a', 'b', 'c'), 6), (('c', 'b'), 4), (('c', 'a', 'c'), 5)):
            self.check_refused((BudgetExceeded, 'cost', cost), service, 'select_without', names)
        # A row of the archive that the cache does not hold is not known.
        service = serving(budget=1)
        self.check_refused((UnknownName, 'name', 'b'), service, 'select_without', ('b',))

    def test_a_changed_result_changes_nothing(self):
        service = serving()
        for value in (service.rows(), service.log(), service.cached_rows(), service.select()):
            self.assertIs(value.__class__, tuple)


class SequencesTest(CheckedTest):
    def some_operation(self, source, model, rowset):
        """Return an operation that raises no error."""
        stored = {row[0]: row for row in model.state['rows']}
        row = source.choice(rowset)
        if row[0] in stored:
            return ('delete', row[0])
        step = source.randrange(12)
        if step == 0:
            return ('advance', model.state['now'] + source.randrange(3))
        # A name that comes back may bring another row.
        return ('insert', (row[0], 1 + step % 3, row[2], row[3])) if step < 4 else ('insert', row)

    def run_sequence(self, query, seed, count, size, budget):
        source = random_source(query, seed)
        rowset = random_rowset(seed, size, 2, high=3, cost=3, expiry=20)
        service, model = KernelService(query, budget, width=2), Model(query, budget)
        for _ in range(count):
            step = source.randrange(10)
            if step < 6:
                operations = (self.some_operation(source, model, rowset),)
                model.perform(operations)
                if source.randrange(2):
                    service.apply(operations[0])
                else:
                    getattr(service, operations[0][0])(operations[0][1])
            elif step == 6:
                self.perform_group(service, model, source, rowset)
            elif step == 7 and model.earlier:
                service.undo()
                model.undo()
            else:
                self.check_cache(service, model, source)
            self.check_model(service, model)
        return service, model, source

    def perform_group(self, service, model, source, rowset):
        trial, operations = copy.deepcopy(model), []
        for _ in range(source.randrange(4)):
            operations.append(self.some_operation(source, trial, rowset))
            trial.perform(operations[-1:])
        if operations:
            model.perform(operations)
        self.assertEqual(service.apply_all(tuple(operations)), len(operations))

    def test_small_archives(self):
        for query in QUERIES:
            for seed in range(3):
                service, model, source = self.run_sequence(query, seed, 40, 7, (0, 2, 5)[seed])
                live = live_at(service.rows(), service.now())
                model.rebuild()
                self.assertEqual(service.cached_rows(), plain_durable(live, query, service.remaining()))
                self.check_cache(service, model, source)

    def test_undo_until_nothing_is_left(self):
        for query in QUERIES[::2]:
            service, model, source = self.run_sequence(query, 9, 60, 8, 3)
            while model.earlier:
                service.undo()
                model.undo()
                self.check_model(service, model)
                if source.randrange(3) == 0:
                    self.check_cache(service, model, source)
            self.check_refused(InvalidOperation, service, 'undo')
            self.assertEqual(whole_state(service), whole_state(KernelService(query, 3, width=2)))

    def test_large_archives(self):
        for query in LARGE:
            service, model, _ = self.run_sequence(query, 4, 60, 58, 6)
            live = live_at(service.rows(), service.now())
            self.assertEqual(service.select(), selected_names(live, query))
            self.assertEqual(service.cached_rows(), durable_kernel(live, query, budget=service.remaining()))

    def test_sixty_rows(self):
        rowset = random_rowset(4, 60, 2, high=9, cost=5, expiry=40)
        for query in LARGE[::3]:
            service = serving(rowset, 20, query=query, width=2)
            check_raises(self, (TooMany, 'limit', 60), service.insert, ('zz', 1, (0, 0), 50))
            for row in rowset[::4]:
                service.delete(row[0])
                live = service.rows()
                self.assertEqual(service.select(), selected_names(live, query))
            self.assertEqual(service.spent() > 20, service.rebuilds() > 0)


class GroupsTest(CheckedTest):
    def test_groups(self):
        service = KernelService(Q, 2, width=1)
        self.assertEqual(service.apply_all(INSERTS + (('delete', 'a'), ('advance', 5))), 5)
        self.assertEqual(service.log(), INSERTS + (('delete', 'a'), ('advance', 5)))
        self.assertEqual((service.rows(), service.now(), service.spent()), ((B, C), 5, 2))
        # An operation may need an earlier one of its group.
        self.assertEqual(service.apply_all((('insert', A), ('delete', 'a'), ('insert', A[:1] + B[1:]))), 3)
        service.undo()
        self.assertEqual((service.rows(), service.now(), service.spent()), ((B, C), 5, 2))
        service.undo()
        self.assertEqual(whole_state(service), whole_state(KernelService(Q, 2, width=1)))

    def test_an_empty_group(self):
        service = serving()
        before = whole_state(service)
        self.assertEqual(service.apply_all(()), 0)
        self.assertEqual(whole_state(service), before)
        service.undo()
        self.assertEqual(service.rows(), (A, B))
        empty = KernelService(Q, 2)
        self.assertEqual(empty.apply_all(()), 0)
        self.check_refused(InvalidOperation, empty, 'undo')

    def test_a_group_that_fails(self):
        good = (('insert', ('d', 1, (0,), 9)), ('delete', 'a'), ('advance', 6))
        for service in (serving(), CacheTest.stale(self)):
            known = service.rows()[-1]
            for bad, error in (
                    (('insert', known), (NameConflict, 'name', 'c')), (('insert', None), InvalidRow),
                    (('delete', 'zoe'), (UnknownName, 'name', 'zoe')), (('advance', -1), (InvalidNumber, 'value', -1)),
                    (('advance', 10 ** 9 + 1), (InvalidNumber, 'value', 10 ** 9 + 1)), (None, InvalidOperation),
                    (('undo', ()), InvalidOperation), (['insert', A], InvalidOperation),
                    (('insert',), InvalidOperation)):
                for operations in ((bad,), (bad,) + good[::2], good[:1] + (bad,) + good[2:], good[::2] + (bad,),
                                   good[:1] + (bad, None, ('delete', 1))):
                    self.check_refused(error, service, 'apply_all', operations)
        # The error is that of the state in which the operation would be performed.
        service = serving()
        self.check_refused((UnknownName, 'name', 'a'), service, 'apply_all', (('delete', 'a'), ('delete', 'a')))
        self.check_refused((InvalidNumber, 'value', 4), service, 'apply_all', (('advance', 5), ('advance', 4)))
        self.check_refused(
            (NameConflict, 'name', 'd'), service, 'apply_all', (good[0], ('insert', ('d', 2, (1,), 1)), None))
        many = tuple(('insert', row) for row in different_rows(61))
        self.check_refused((TooMany, 'limit', 60), KernelService(EACH, 0, width=1), 'apply_all', many)
        self.assertEqual(KernelService(EACH, 0, width=1).apply_all(many[:60]), 60)

    def test_values_that_are_no_tuples(self):
        service = serving()
        for value in ODD_VALUES + (list(INSERTS), {}, made(), service):
            if value != ():
                self.check_refused(InvalidOperation, service, 'apply_all', value)
        for value in replaced((('delete', 'a'), ('advance', 6))):
            service = serving()
            before = whole_state(service)
            try:
                count = service.apply_all(value)
            except (InvalidOperation, InvalidNumber, UnknownName):
                self.assertEqual(whole_state(service), before)
            else:
                self.assertEqual(count, len(value))
                self.assertEqual(service.log(), INSERTS + value)


class UndoTest(CheckedTest):
    def check_undo(self, service, operations):
        """Check that undoing the operations restores the whole state."""
        before = whole_state(service)
        service.apply_all(operations)
        self.assertIsNone(service.undo())
        self.assertEqual(whole_state(service), before)
        states = []
        for operation in operations:
            states.append(whole_state(service))
            service.apply(operation)
        for state in reversed(states):
            service.undo()
            self.assertEqual(whole_state(service), state)

    def test_single_operations_and_groups(self):
        for budget in (0, 1, 2, 3, 9):
            service = serving(budget=budget)
            for operations in (
                    (('delete', 'a'),), (('delete', 'b'), ('delete', 'a')), (('advance', 5),), (('advance', 0),),
                    (('insert', ('d', 1, (0,), 9)),), (('insert', ('d', 1, (0,), 9)), ('delete', 'd')),
                    (('advance', 7), ('delete', 'c'), ('insert', ('d', 1, (1,), 8)), ('advance', 8)),
                    (('delete', 'a'), ('delete', 'b'), ('delete', 'c'))):
                self.check_undo(service, operations)

    def test_rebuilds_between(self):
        service = serving(budget=1)
        service.delete('a')
        self.assertEqual((service.select(), service.rebuilds(), service.spent()), (('b',), 1, 2))
        service.insert(('d', 1, (0,), 9))
        service.undo()
        # The rebuilding is no operation, and what was before it is not restored.
        self.assertEqual((service.rows(), service.rebuilds(), service.spent()), ((B, C), 1, 2))
        service.undo()
        self.assertEqual((service.rows(), service.rebuilds(), service.spent()), (S, 0, 0))
        self.assertEqual((service.cached_rows(), service.remaining(), service.rebuilds()), ((A,), 1, 0))

    def test_back_to_a_stale_cache(self):
        service = serving(budget=1)
        service.delete('a')
        service.insert(('d', 1, (9,), 9))
        self.assertEqual((service.select(), service.rebuilds()), (('b',), 1))
        service.undo()
        self.assertEqual((service.rows(), service.rebuilds(), service.spent()), ((B, C), 0, 2))
        # The cache was stale then, and nothing was passed on to it.
        service.delete('b')
        self.assertEqual((service.spent(), service.rebuilds()), (2, 0))
        self.assertEqual((service.select(), service.rebuilds()), (('c',), 1))

    def test_nothing_to_undo(self):
        for service in (KernelService(Q, 2, width=1), serving(())):
            self.check_refused(InvalidOperation, service, 'undo')
        service = serving((A,))
        service.undo()
        self.check_refused(InvalidOperation, service, 'undo')

    def test_the_log(self):
        service = serving()
        service.apply_all((('advance', 2), ('delete', 'c')))
        service.insert(C)
        self.assertEqual(service.log(), INSERTS + (('advance', 2), ('delete', 'c'), ('insert', C)))
        for log in (INSERTS + (('advance', 2), ('delete', 'c')), INSERTS, INSERTS[:2], INSERTS[:1], ()):
            service.undo()
            self.assertEqual(service.log(), log)
        service.insert(A)
        self.assertEqual(service.log(), INSERTS[:1])

    def test_costs_are_counted_once(self):
        service = serving(budget=9)
        service.delete('a')
        service.undo()
        service.delete('a')
        self.assertEqual((service.spent(), service.remaining()), (2, 7))
        self.assertEqual(cost_of(service.rows()), 4)


if __name__ == '__main__':
    unittest.main()
