"""Tests of spareskept.replicas.replica: 14.1 and 14.2."""

import unittest

from spareskept.errors import BudgetExceeded, InvalidMessage, InvalidNumber, InvalidQuery, InvalidRow, NameConflict
from spareskept.errors import TooMany, UnknownName
from spareskept.expiry.durable import durable_kernel
from spareskept.queries.select import selected_names
from spareskept.replicas.replica import Replica
from tests.queries import LARGE, QUERIES, expiring_rowsets, live_at, plain_durable, plain_names, times_of
from tests.test_depths import without
from tests.test_outcomes import BUDGET_CASES, EACH, different_rows
from tests.test_select import QUERY_CASES
from tests.test_store import NOT_NAMES, NOT_ROWS, WIDTH_CASES, made
from tests.values import NOT_ROWSETS, ODD_VALUES, Q, R, S, SIXTY, SIXTY_ONE
from tests.values import check_errors, check_raises, cost_of, name_of, numbers_outside, random_rowset, random_source
from tests.values import replaced

A, B, C = S


def state_of(replica):
    return (replica.rows(), replica.deleted(), replica.message(), len(replica), str(replica))


def fed(rows=(), deleted=(), *, budget=2, query=Q, width=1):
    """Return a replica that has received the rows and the deleted names."""
    replica = Replica(query, budget, width=width)
    for row in rows:
        replica.receive(row)
    for name in deleted:
        replica.receive_deletion(name)
    return replica


class CheckedTest(unittest.TestCase):
    def check_state(self, replica, rows, deleted):
        self.assertEqual(state_of(replica), (
            rows, deleted, (rows, deleted), len(rows), f'replica with {len(rows)} rows, {len(deleted)} deleted'))

    def check_refused(self, error, replica, method, *arguments):
        """Check that the call raises this error and leaves the replica as it was."""
        before = state_of(replica)
        check_raises(self, error, getattr(replica, method), *arguments)
        self.assertEqual(state_of(replica), before)


class ReceiveTest(CheckedTest):
    def test_a_new_replica(self):
        for replica in (Replica(Q, 2), Replica(Q, 2, width=4), Replica(('hull', 2, 3), 0), Replica(Q, 9, width=1)):
            self.check_state(replica, (), ())
        self.assertEqual(Replica(Q, 2), Replica(Q, 2, width=4))
        self.assertRaises(TypeError, Replica, Q, 2, 1)

    def test_errors_of_making_one(self):
        wide = ('hull', 0, 3)
        check_errors(self, Replica, {0: Q, 1: 2, 'width': 2}, [
            ('width', WIDTH_CASES), (0, QUERY_CASES), (1, BUDGET_CASES)])
        check_raises(self, InvalidQuery, Replica, wide, -1, width=3)
        check_raises(self, (InvalidNumber, 'value', -1), Replica, wide, -1)

    def test_rows_in_any_order(self):
        for query in QUERIES:
            for rowset in expiring_rowsets(query, 6)[:2]:
                for budget in (0, 3):
                    kernel = plain_durable(rowset, query, budget)
                    for seed in range(3):
                        rows = random_source(seed).sample(rowset + rowset[2:5], len(rowset) + 3)
                        replica = fed(rows, budget=budget, query=query, width=2)
                        # Rows that come twice may be rows that are not stored any more.
                        self.check_state(replica, kernel, ())

    def test_a_stored_row(self):
        replica = fed(S)
        for row in S:
            self.assertIsNone(replica.receive(row))
            self.check_state(replica, S, ())

    def test_expired_rows_are_stored(self):
        replica = fed((('a', 1, (0,), 1), ('b', 1, (1,), 10 ** 9)), budget=0)
        self.check_state(replica, (('a', 1, (0,), 1), ('b', 1, (1,), 10 ** 9)), ())
        self.assertEqual([replica.select(0), replica.select(1), replica.select(10 ** 9)], [('a',), ('b',), ()])

    def test_a_different_row(self):
        replica = fed(S)
        for row in (('a', 1, (1,), 9), ('a', 2, (0,), 9), ('a', 2, (1,), 8), ('c', 3, (3,), 1)):
            self.check_refused((NameConflict, 'name', row[0]), replica, 'receive', row)
        # Under a name that is not stored another row is received.
        replica = fed(S, budget=1)
        self.check_state(replica, (A,), ())
        for row in (('b', 1, (0,), 9), ('c', 1, (2,), 10)):
            expected = durable_kernel(tuple(sorted(replica.rows() + (row,))), Q, budget=1)
            replica.receive(row)
            self.check_state(replica, expected, ())
        self.assertEqual(replica.rows(), (A, ('b', 1, (0,), 9), ('c', 1, (2,), 10)))

    def test_more_than_sixty_rows(self):
        rows = different_rows(61)
        replica = fed(rows[:60], query=EACH)
        self.check_state(replica, rows[:60], ())
        for row in (rows[60], ('zz', 1, (0,), 9)):
            self.check_refused((TooMany, 'limit', 60), replica, 'receive', row)
        self.check_refused((NameConflict, 'name', 'aa'), replica, 'receive', ('aa', 1, (9,), 1))
        self.check_refused(InvalidRow, replica, 'receive', ('zz', 1, (0, 0), 9))
        replica.receive(rows[7])
        self.check_state(replica, rows[:60], ())

    def test_errors(self):
        replica = fed(S, ('a',))
        for value in NOT_ROWS + ODD_VALUES + R + (made(), fed(), ('a', 1, (1, 1), 9)):
            self.check_refused(InvalidRow, replica, 'receive', value)


class DeletionTest(CheckedTest):
    def test_names(self):
        replica = Replica(Q, 2, width=1)
        for name, deleted in (('zoe', ('zoe',)), ('a', ('a', 'zoe')), ('zoe', ('a', 'zoe')), ('b', ('a', 'b', 'zoe'))):
            self.assertIsNone(replica.receive_deletion(name))
            self.check_state(replica, (), deleted)
        for row in S:
            replica.receive(row)
        self.check_state(replica, S, ('a', 'b', 'zoe'))
        replica.receive_deletion('c')
        self.check_state(replica, S, ('a', 'b', 'c', 'zoe'))

    def test_errors(self):
        for replica in (fed(S), fed((), ('a',))):
            for value in NOT_NAMES + tuple(value for value in ODD_VALUES if value != 'asc') + (made(), replica):
                self.check_refused((UnknownName, 'name', value), replica, 'receive_deletion', value)

    def test_many_names(self):
        names = [name_of(number) for number in range(26 * 26)]
        replica = fed((), random_source('names').sample(names, len(names)))
        self.check_state(replica, (), tuple(names))


class SelectTest(CheckedTest):
    def check_replica(self, replica, rows, query, deleted, budget):
        """Check the costs and selections at every time; rows are all rows received."""
        kernel = durable_kernel(rows, query, budget=budget)
        for now in times_of(rows):
            live = live_at(kernel, now)
            cost = sum(row[1] for row in live if row[0] in deleted)
            self.assertEqual(replica.deleted_cost(now), cost)
            self.assertIs(replica.is_reliable(now), cost <= budget)
            if cost <= budget:
                expected = plain_names(live_at(without(rows, deleted), now), query)
                self.assertEqual(replica.select(now), expected, (rows, query, deleted, now))
            else:
                self.check_refused((BudgetExceeded, 'cost', cost), replica, 'select', now)

    def test_every_query(self):
        for query in QUERIES:
            for rowset in expiring_rowsets(query, 7)[:2]:
                for seed, budget in enumerate((0, 2, 4, 6)):
                    source = random_source(query, seed)
                    deleted = [row[0] for row in rowset if source.randrange(3) == 0] + ['zoe']
                    replica = Replica(query, budget, width=2)
                    for name in deleted[:2]:
                        replica.receive_deletion(name)
                    for row in source.sample(rowset, len(rowset)):
                        replica.receive(row)
                    for name in deleted:
                        replica.receive_deletion(name)
                    self.check_replica(replica, rowset, query, deleted, budget)

    def test_sixty_rows(self):
        for query in LARGE:
            rowset = random_rowset(6, 60, 2, high=9, cost=4, expiry=20)
            deleted = [row[0] for row in rowset[::7]]
            replica = fed(rowset[::2] + rowset[1::2], deleted, budget=30, query=query, width=2)
            for now in range(21):
                if replica.is_reliable(now):
                    self.assertEqual(replica.select(now), selected_names(
                        live_at(without(rowset, deleted), now), query))

    def test_costs_at_the_budget(self):
        for budget, deleted, costs in (
                (2, 'a', {0: 2, 4: 2, 5: 2, 8: 2, 9: 0}), (1, 'a', {0: 2, 8: 2, 9: 0}),
                (3, 'ab', {0: 3, 4: 3, 5: 2, 8: 2, 9: 0}), (2, 'ab', {0: 3, 4: 3, 5: 2, 9: 0}),
                (9, 'abc', {0: 6, 4: 6, 5: 5, 9: 0}), (0, '', {0: 0}), (2, 'z', {0: 0, 9: 0})):
            replica = fed(S, deleted, budget=budget)
            for now, cost in costs.items():
                stored = cost_of(row for row in live_at(replica.rows(), now) if row[0] in deleted)
                self.assertEqual(replica.deleted_cost(now), stored)
                if budget >= 2:
                    self.assertEqual(stored, cost)
                self.assertIs(replica.is_reliable(now), stored <= budget)
        replica = fed(S, ('a', 'b'), budget=2)
        self.check_refused((BudgetExceeded, 'cost', 3), replica, 'select', 0)
        self.check_refused((BudgetExceeded, 'cost', 3), replica, 'select', 4)
        self.assertEqual([replica.select(5), replica.select(8), replica.select(9)], [('c',), ('c',), ()])
        self.assertEqual(fed(S, ('a',), budget=2).select(0), ('b',))
        self.assertEqual(fed(S, ('b', 'zoe'), budget=2).select(0), ('a',))

    def test_errors(self):
        for replica in (fed(S), fed(S, ('a', 'b', 'c')), fed()):
            for value in numbers_outside(0, 10 ** 9):
                for method in ('select', 'deleted_cost', 'is_reliable'):
                    self.check_refused((InvalidNumber, 'value', value), replica, method, value)


NOT_MESSAGES = (
    None, 1, True, '', (), (S,), (S, (), ()), [S, ()], [(), ()], {}, ((), []), ([], ()), (list(S), ()), (S, ['a']),
    (S, None), (None, ()), (S, 'a'), (S, ('b', 'a')), (S, ('a', 'a')), (S, ('A',)), (S, ('',)), (S, (None,)), (S, (1,)),
    (S, ('a', ('b',))), (S, ('a', 'b ')), ((B, A), ()), (SIXTY_ONE, ()), (R, ()), ((), (R,)), (A, ()), ((A, A), ()),
    (S, {'a': 1}), (S, ('a', 'abcdefghi')), ('a', 'b'), (S, S), (('a',), S),
)


class MessageTest(CheckedTest):
    def test_messages(self):
        one, other = fed((A, B), ('c',)), fed((C,), ('a', 'd'))
        self.assertEqual(one.message(), ((A, B), ('c',)))
        self.assertIsNone(other.receive_message(one.message()))
        self.check_state(other, S, ('a', 'c', 'd'))
        self.check_state(one, (A, B), ('c',))
        for _ in range(2):
            one.receive_message(other.message())
            self.check_state(one, S, ('a', 'c', 'd'))
        self.assertEqual(one, other)
        one.receive_message(((), ()))
        one.receive_message(((), ('zoe',)))
        self.check_state(one, S, ('a', 'c', 'd', 'zoe'))
        one.receive_message((S[:1], ()))
        self.check_state(one, S, ('a', 'c', 'd', 'zoe'))

    def test_a_message_need_not_be_a_kernel(self):
        replica = Replica(Q, 1, width=1)
        replica.receive_message((S, ()))
        self.check_state(replica, (A,), ())

    def test_values_that_are_no_messages(self):
        for replica in (fed(S, ('a',)), fed()):
            for value in NOT_MESSAGES + ODD_VALUES + (made(), replica, (replica, ()), (S, replica)):
                self.check_refused(InvalidMessage, replica, 'receive_message', value)

    def test_replaced_parts(self):
        message = ((('d', 1, (4,), 9), ('e', 1, (5,), 2)), ('d', 'f'))
        for value in replaced(message):
            replica = fed(S, ('a',), budget=9)
            before = state_of(replica)
            try:
                replica.receive_message(value)
            except InvalidMessage:
                self.assertEqual(state_of(replica), before)
            else:
                rows, names = value
                self.check_state(replica, tuple(sorted(set(S + rows))), tuple(sorted(set(('a',) + names))))

    def test_conflicts(self):
        replica = fed(S, ('zoe',), budget=9)
        for rows, name in (
                ((('a', 1, (1,), 9),), 'a'), ((('b', 1, (9,), 5), ('c', 3, (3,), 8)), 'b'),
                ((A, ('c', 3, (2,), 9)), 'c'), ((('aa', 1, (1,), 1), ('b', 2, (2,), 5), ('c', 1, (1,), 1)), 'b')):
            self.check_refused((NameConflict, 'name', name), replica, 'receive_message', (rows, ('bob',)))

    def test_more_than_sixty_rows(self):
        rows = different_rows(62)
        replica = fed(rows[:31], query=EACH)
        self.check_refused((TooMany, 'limit', 60), replica, 'receive_message', (rows[2:62], ('bob',)))
        self.check_refused((TooMany, 'limit', 60), replica, 'receive_message', (rows[31:61], ()))
        conflict = (('be', 2, (0,), 9),) + rows[31:61]
        self.check_refused((NameConflict, 'name', 'be'), replica, 'receive_message', (conflict, ()))
        replica.receive_message((rows[1:60], ('bob',)))
        self.check_state(replica, rows[:60], ('bob',))
        # Rows that the kernel would not hold count, too.
        equal = tuple((row[0], 1, (0,), 9) for row in rows[:61])
        replica = fed(equal[:1], budget=0)
        self.check_refused((TooMany, 'limit', 60), replica, 'receive_message', (equal[1:], ()))
        replica.receive_message((equal[1:60], ()))
        self.check_state(replica, equal[:1], ())

    def test_late_repeated_and_in_any_order(self):
        for query in QUERIES:
            rowset = expiring_rowsets(query, 7)[1]
            for seed in range(3):
                source = random_source(query, seed)
                replicas = [Replica(query, 3, width=2) for _ in range(3)]
                names = tuple(name for name in ('aa', 'ac', 'ag', 'zoe') if source.randrange(2))
                messages = []
                for _ in range(12):
                    replica = source.choice(replicas)
                    replica.receive(source.choice(rowset))
                    if names and source.randrange(3) == 0:
                        replica.receive_deletion(source.choice(names))
                    messages.append(source.choice(replicas).message())
                    source.choice(replicas).receive_message(source.choice(messages))
                for row in rowset:
                    source.choice(replicas).receive(row)
                for name in names:
                    source.choice(replicas).receive_deletion(name)
                messages += [replica.message() for replica in replicas]
                for replica in replicas:
                    for message in source.sample(messages, len(messages)):
                        replica.receive_message(message)
                expected = fed(rowset, names, budget=3, query=query, width=2)
                for replica in replicas:
                    self.assertEqual(replica, expected)
                    self.check_state(replica, plain_durable(rowset, query, 3), names)


class EqualityTest(CheckedTest):
    def test_equal_replicas(self):
        for one, other in ((fed(S), fed(S[::-1])), (fed((A,), ('a', 'b')), fed((A,), ('b', 'a', 'b'))),
                           (fed(S, budget=1), fed((A,), budget=1)), (fed(), fed())):
            self.assertIs(one == other, True)
            self.assertIs(one != other, False)

    def test_different_replicas(self):
        one = fed(S, ('a',))
        for other in (fed(S), fed(S, ('a', 'b')), fed(S, ('b',)), fed((A, B), ('a',)), fed(S, ('a',), budget=3),
                      fed(S, ('a',), query=('top', ((0, 'asc'),), 2)), fed(width=2), fed()):
            for first, second in ((one, other), (other, one)):
                self.assertIs(first == second, False)
                self.assertIs(first != second, True)
        self.assertIs(fed(width=1) == fed(width=2), False)
        self.assertIs(fed(budget=1) == fed(budget=2), False)
        self.assertIs(fed(query=EACH) == fed(), False)

    def test_any_value(self):
        for replica in (fed(), fed(S, ('a',))):
            for value in ODD_VALUES + NOT_ROWSETS[:4] + (S, replica.message(), made(), str(replica), [replica], SIXTY):
                self.assertIs(replica == value, False)
                self.assertIs(replica != value, True)

    def test_text(self):
        self.assertEqual(str(fed(S, ('a',), budget=9)), 'replica with 3 rows, 1 deleted')
        self.assertEqual(str(fed((A,), ('a', 'b'))), 'replica with 1 rows, 2 deleted')
        self.assertEqual(str(fed()), 'replica with 0 rows, 0 deleted')


if __name__ == '__main__':
    unittest.main()
