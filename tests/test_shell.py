"""Tests of spareskept.text.shell: 16.1."""

import copy
import unittest

from spareskept.certificates.certificates import depth_certificate
from spareskept.deletions.exclusion import exclusion_set
from spareskept.deletions.outcomes import robust_names
from spareskept.depths.depths import row_depth
from spareskept.errors import BudgetExceeded, InvalidCommand, InvalidNumber, InvalidOperation, NameConflict
from spareskept.errors import ParseError, TooMany, UnknownName
from spareskept.expiry.durable import entry_time
from spareskept.service.service import KernelService
from spareskept.text.formats import format_query, format_row
from spareskept.text.shell import Shell
from tests.queries import LARGE, QUERIES, live_at
from tests.test_outcomes import different_rows
from tests.test_replica import fed
from tests.test_service import plain_state, serving, whole_state
from tests.test_store import made
from tests.values import ODD_VALUES, S
from tests.values import check_raises, random_rowset, random_source

SERVICE = 'service 1 2 top 1 0 asc'
INSERTS = tuple(f'insert {format_row(row)}' for row in S)
FORTY, FORTY_ONE = '9' * 40, '9' * 41
PLAIN = ('undo', 'select', 'cached', 'archive', 'remaining', 'rebuilds', 'spent', 'now')


def started(*commands, service=SERVICE, inserts=INSERTS):
    """Return a shell that has run the commands."""
    shell = Shell()
    shell.run_all((service,) + inserts + commands)
    return shell


def text_of(names):
    return ','.join(names) or '-'


class CheckedTest(unittest.TestCase):
    def check_refused(self, error, shell, command):
        """Check that the command raises this error, counts, and leaves the service as it was."""
        service, count = shell.service(), len(shell)
        before = None if service is None else whole_state(service)
        check_raises(self, error, shell.run, command)
        self.assertIs(shell.service(), service)
        self.assertEqual(len(shell), count + 1)
        if service is not None:
            self.assertEqual(whole_state(service), before)

    def check_results(self, shell, results):
        for command, result in results:
            self.assertEqual(shell.run(command), result, command)


class ResultsTest(CheckedTest):
    def test_by_hand(self):
        shell = Shell()
        self.check_results(shell, (
            (SERVICE, 'ok'), ('select', '-'), ('archive', '-'), ('cached', '-'), ('remaining', '2'), ('spent', '0'),
            (INSERTS[2], 'ok'), (INSERTS[0], 'ok'), (INSERTS[1], 'ok'), ('archive', 'a,b,c'), ('cached', 'a,b,c'),
            ('select', 'a'), ('without -', 'a'), ('without a', 'b'), ('without a,a', 'b'), ('without b', 'a'),
            ('depth a', '0'), ('depth b', '2'), ('depth c', '3'), ('certificate b 2', 'exposed a'),
            ('certificate b 1', 'hidden'), ('certificate c 3', 'exposed a,b'), ('certificate a 0', 'exposed -'),
            ('robust 1', 'a'), ('robust 2', '-'), ('exclude a', 'a'), ('exclude c,a', 'a'), ('exclude b,a,b', 'a,b'),
            ('exclude -', '-'), ('exclude c', '-'), ('entry c 2', '5'), ('entry c 1', 'none'), ('entry c 3', '0'),
            ('entry b 2', '0'), ('now', '0'), ('advance 5', 'ok'), ('now', '5'), ('archive', 'a,b,c'),
            ('cached', 'a,c'),
            ('depth c', '2'), ('exclude a,c', 'a,c'), ('entry b 2', '0'), ('entry c 2', '5'),
            ('certificate c 2', 'exposed a'),
            ('delete a', 'ok'), ('spent', '2'), ('remaining', '0'), ('select', 'c'), ('rebuilds', '0'),
            ('robust 2', 'c'),
            ('delete c', 'ok'), ('spent', '5'), ('rebuilds', '0'), ('archive', 'b'), ('rebuilds', '0'), ('select', '-'),
            ('rebuilds', '1'), ('remaining', '2'), ('undo', 'ok'), ('archive', 'b,c'), ('rebuilds', '0'),
            ('undo', 'ok'),
            ('undo', 'ok'), ('now', '0'), ('cached', 'a,b,c'), ('delete b', 'ok'), ('archive', 'a,c')))
        self.assertEqual(len(shell), 67)

    def test_negative_values_and_wide_rows(self):
        shell = Shell()
        self.check_results(shell, (
            ('service 4 1000000000 union ( skyline 3 desc 0 , where ( le 0 -1 ) top 2 - )', 'ok'),
            ('insert abcdefgh 1000000 -1000000000,0,-5,1000000000 1000000000', 'ok'), ('insert a 1 0,0,0,0 1', 'ok'),
            ('select', 'abcdefgh'), ('depth a', '1000000'), ('depth abcdefgh', '0'), ('entry a 999999', 'none'),
            ('certificate a 1000000', 'exposed abcdefgh'), ('robust 999999', 'abcdefgh'), ('robust 1000000', '-'),
            ('advance 1000000000', 'ok'), ('select', '-'), ('robust 0', '-'), ('exclude -', '-')))

    def test_none(self):
        shell = started(service='service 1 2 where ( ge 0 2 ) top 1 0 asc')
        self.check_results(shell, (
            ('depth a', 'none'), ('certificate a 1000000000', 'hidden'), ('entry a 1000000000', 'none'),
            ('select', 'b'),
            ('entry c 0', '5'), ('exclude a', '-'), ('depth c', '1')))

    def test_commands_against_the_functions(self):
        for query in QUERIES[::2] + LARGE[::4]:
            source = random_source('shell', query)
            rowset = random_rowset(5, 12, 2, cost=4, expiry=9)
            service = KernelService(query, 6, width=2)
            shell = started(service=f'service 2 6 {format_query(query)}', inserts=())
            for row in source.sample(rowset, 12):
                self.check_results(shell, ((f'insert {format_row(row)}', 'ok'),))
                service.insert(row)
                if source.randrange(5) == 0:
                    self.check_results(shell, ((f'delete {row[0]}', 'ok'), ('undo', 'ok')))
            for now in (0, 2, 4):
                shell.run(f'advance {now}')
                service.advance(now)
                self.check_answers(shell, service, query, now)
            self.assertEqual(shell.service(), service)

    def check_answers(self, shell, service, query, now):
        archive, live = service.rows(), live_at(service.rows(), now)
        self.check_results(shell, (
            ('select', text_of(service.select())), ('archive', text_of(row[0] for row in archive)),
            ('cached', text_of(row[0] for row in service.cached_rows())), ('remaining', str(service.remaining())),
            ('robust 2', text_of(robust_names(live, query, budget=2))), ('now', str(now)),
            ('rebuilds', str(service.rebuilds())), ('spent', str(service.spent()))))
        for row in live:
            for budget in (0, 3):
                kind, content = depth_certificate(live, query, row[0], budget=budget)
                self.check_results(shell, ((
                    f'certificate {row[0]} {budget}',
                    f'exposed {text_of(content)}' if kind == 'exposed' else 'hidden'),))
            depth = row_depth(live, query, row[0])
            self.check_results(shell, ((f'depth {row[0]}', 'none' if depth is None else str(depth)),))
        for row in archive:
            time = entry_time(archive, query, row[0], budget=1)
            self.check_results(shell, ((f'entry {row[0]} 1', 'none' if time is None else str(time)),))
        names = tuple(row[0] for row in live)[::-2]
        self.check_results(shell, ((f'exclude {text_of(names)}', text_of(exclusion_set(live, query, names))),))

    def test_a_new_service(self):
        shell = started('delete a')
        first = shell.service()
        self.assertEqual(shell.run('service 2 0 hull 0 1'), 'ok')
        self.assertIsNot(shell.service(), first)
        self.assertEqual(shell.service(), KernelService(('hull', 0, 1), 0, width=2))
        self.assertEqual(first.rows(), S[1:])
        self.check_refused(InvalidOperation, shell, 'undo')

    def test_the_service_itself(self):
        shell = started()
        service = shell.service()
        self.assertIs(shell.service(), service)
        shell.run('delete a')
        self.assertEqual(service.rows(), S[1:])
        self.assertEqual(service.log()[-1], ('delete', 'a'))


class ErrorsTest(CheckedTest):
    def test_values_that_are_no_strings(self):
        for shell in (Shell(), started()):
            for value in ODD_VALUES + (b'select', ['select'], ('select',), shell, made(), fed()):
                self.check_refused(InvalidCommand, shell, value)

    def test_without_a_service(self):
        for command in PLAIN + INSERTS + (
                'delete a', 'advance 5', 'without -', 'depth a', 'certificate a 1', 'robust 1', 'exclude a',
                'entry a 1',
                'insert', 'insert ', 'insert x', 'insert A 1 1 1', 'advance -1', 'delete A', 'robust x',
                'certificate a',
                '', ' ', 'service', 'services', 'service 1', 'service 1 2', 'service 1 2 '):
            self.check_refused(InvalidCommand, Shell(), command)

    def test_other_forms(self):
        commands = ['', ' ', '  ', '-', 'a', 'Select', 'SELECT', 'selects', 'select\n', '\nselect', 'select\t',
                'query', 'run',
                    'service', 'service ', 'service 1', 'service 1 ', 'service 1 2', 'service 1 2 ', ' ' + SERVICE,
                    'service  1 2 top 1 -', 'service 1  2 top 1 -', 'service\t1 2 top 1 -', 'insert', 'inserta 2 1 9',
                    ' insert a 2 1 9', 'Insert a 2 1 9', 'insert\ta 2 1 9', 'insert,a']
        for word in PLAIN:
            commands += [word + ' ', ' ' + word, word + ' a', word + ' 1', word + '  ', word + ' -', word + ',']
        for word, good in (('delete', 'a'), ('advance', '5'), ('without', 'a'), ('depth', 'a'), ('robust', '1'),
                           ('exclude', 'a'), ('certificate', 'a 1'), ('entry', 'a 1')):
            commands += [word, word + ' ', word + '  ' + good, f'{word} {good} ', f' {word} {good}',
                    f'{word} {good} {good}',
                         f'{word} {good} 1', f'{word}s {good}', f'{word} {good}\n', f'{word}\t{good}',
                         f'{word}  {good}']
        for word in ('certificate', 'entry'):
            commands += [word + ' a', word + ' 1', word + ' a  1', word + ' a ', word + '  1', word + ' a 1 ']
        shell = started()
        for command in commands:
            self.check_refused(InvalidCommand, shell, command)

    def test_names_and_integers_in_another_form(self):
        shell = started()
        for name in ('A', 'a1', '1', '-', 'abcdefghi', 'a,b', ',', 'a,', '\u00e4', 'None', 'a-', "'a'"):
            for command in (f'delete {name}', f'depth {name}', f'certificate {name} 1', f'entry {name} 1',
                            f'certificate {name} -1', f'entry {name} x'):
                self.check_refused(InvalidCommand, shell, command)
        for names in ('A', 'a,B', ',', 'a,', ',a', 'a,,b', 'a,-', '--', 'a;b', 'a,b,abcdefghi', '1', 'a,1', 'zoe,A',
                '()'):
            for word in ('without', 'exclude'):
                self.check_refused(InvalidCommand, shell, f'{word} {names}')
        for number in ('01', '-0', '+1', '--1', '1.0', '1_0', 'x', 'a', '-', '00', '1-', '\u0661', '\u00b2', '1,2',
                '0x1',
                       FORTY_ONE, '-' + FORTY_ONE, '0' + FORTY, '1' * 5000, '-01', 'None', 'none', 'True'):
            for command in (f'advance {number}', f'robust {number}', f'certificate a {number}', f'entry a {number}',
                            f'certificate zoe {number}', f'service {number} 2 top 1 -', f'service 1 {number} top 1 -',
                            f'service {number} x', f'service 9 {number} x', f'service {number} {number} x'):
                self.check_refused(InvalidCommand, shell, command)

    def test_widths_queries_and_budgets(self):
        shell = started()
        for text in ('0', '5', '-1', FORTY, '-' + FORTY, '1000'):
            error = (InvalidNumber, 'value', int(text))
            for rest in ('2 top 1 -', '2 x', '-1 x', '-1 top 1 -', f'{FORTY}  ', '2  '):
                self.check_refused(error, shell, f'service {text} {rest}')
        for query in (' ', 'x', ' top 1 -', 'top 1 - ', 'top 1', 'hull 0 1', 'top 1 1 asc', 'top 01 -', 'top 1 -\n',
                '-',
                      'where ( ge 0 1 )  top 1 -', 'group 0 ' * 999 + 'top 1 -', 'select', '1 2 top 1 -'):
            for budget in ('2', '-1', FORTY):
                self.check_refused(ParseError, shell, f'service 1 {budget} {query}')
        for text in ('-1', '1000000001', FORTY, '-' + FORTY):
            self.check_refused((InvalidNumber, 'value', int(text)), shell, f'service 1 {text} top 1 -')
        self.check_results(shell, (
            ('service 1 0 top 1 -', 'ok'), ('service 4 1000000000 top 1 -', 'ok'), ('service 2 1 hull 1 0', 'ok')))

    def test_rows(self):
        shell = started()
        for row in ('', ' ', 'a', 'x y', ' d 1 1 9', 'd 1 1 9 ', 'd  1 1 9', 'd 01 1 9', 'd 1 1', 'D 1 1 9', 'd 0 1 9',
                '-',
                    'd 1 1 0', 'd 1 1 9 9', 'd 1 1,2,3,4,5 9', f'd 1 {FORTY} 9', f'd {FORTY_ONE} 1 9', 'd 1 1 9\n',
                    'a 2 1 9 ; b 1 2 5', 'insert d 1 1 9', 'a 02 1 9'):
            self.check_refused(ParseError, shell, f'insert {row}')
        self.check_refused((NameConflict, 'name', 'a'), shell, 'insert a 2 1 9')
        self.check_refused((NameConflict, 'name', 'a'), shell, 'insert a 1 1 1')

    def test_errors_of_the_service_and_the_functions(self):
        shell = started('advance 5')
        for command, error in (
                ('delete zoe', (UnknownName, 'name', 'zoe')), ('advance 4', (InvalidNumber, 'value', 4)),
                ('advance -1', (InvalidNumber, 'value', -1)), ('advance 1000000001',
                (InvalidNumber, 'value', 10 ** 9 + 1)),
                (f'advance {FORTY}', (InvalidNumber, 'value', 10 ** 40 - 1)), ('without b', (UnknownName, 'name', 'b')),
                ('without c,zoe,b', (UnknownName, 'name', 'zoe')), ('without c', (BudgetExceeded, 'cost', 3)),
                ('without a,c,a', (BudgetExceeded, 'cost', 5)), ('depth b', (UnknownName, 'name', 'b')),
                ('depth zoe', (UnknownName, 'name', 'zoe')), ('certificate b 1', (UnknownName, 'name', 'b')),
                ('certificate b -1', (UnknownName, 'name', 'b')), ('certificate a -1', (InvalidNumber, 'value', -1)),
                ('robust -1', (InvalidNumber, 'value', -1)), ('robust 1000000001',
                (InvalidNumber, 'value', 10 ** 9 + 1)),
                (f'robust -{FORTY}', (InvalidNumber, 'value', 1 - 10 ** 40)), ('exclude b', (UnknownName, 'name', 'b')),
                ('exclude a,zoe,b', (UnknownName, 'name', 'zoe')), ('entry zoe 1', (UnknownName, 'name', 'zoe')),
                ('entry zoe -1', (UnknownName, 'name', 'zoe')), ('entry b -1', (InvalidNumber, 'value', -1)),
                (f'entry a {FORTY}', (InvalidNumber, 'value', 10 ** 40 - 1))):
            self.check_refused(error, shell, command)
        shell = started(inserts=())
        self.check_refused(InvalidOperation, shell, 'undo')
        wide = tuple(f'insert {format_row(row)}' for row in different_rows(60))
        shell = started(service='service 1 0 top 1 -', inserts=wide)
        self.check_refused((TooMany, 'limit', 60), shell, 'insert zz 1 1 1')

    def test_an_error_leaves_a_stale_cache(self):
        shell = started('delete a', 'delete b')
        for command in ('without zoe', 'without a', 'without c', 'select ', 'cached x', 'depth a'):
            self.assertRaises(Exception, shell.run, command)
        self.check_results(shell, (('rebuilds', '0'), ('depth c', '0'), ('rebuilds', '0'), ('select', 'c'),
                ('rebuilds', '1')))


class ShellTest(CheckedTest):
    def test_numbers_of_commands(self):
        shell = Shell()
        self.assertEqual((len(shell), str(shell), shell.service()), (0, 'shell with 0 commands', None))
        for number, (command, error) in enumerate((
                ('select', InvalidCommand), (None, InvalidCommand), ('', InvalidCommand), (SERVICE, None),
                (INSERTS[0], None),
                (['select'], InvalidCommand), ('insert x', ParseError), ('delete b', UnknownName), ('select', None)),
                1):
            if error is None:
                shell.run(command)
            else:
                self.assertRaises(error, shell.run, command)
            self.assertEqual((len(shell), str(shell)), (number, f'shell with {number} commands'))

    def test_run_all(self):
        shell = Shell()
        self.assertEqual(shell.run_all(()), ())
        self.assertEqual(shell.run_all((SERVICE,) + INSERTS + ('select',)), ('ok',) * 4 + ('a',))
        self.assertEqual(len(shell), 5)
        for bad, error in (('insert x', ParseError), (None, InvalidCommand), ('', InvalidCommand),
                           ('delete zoe', (UnknownName, 'name', 'zoe')), ('advance 0', (InvalidNumber, 'value', 0))):
            for commands in ((bad,), (bad, 'delete a'), ('advance 1', bad, 'delete a'), ('advance 1', 'delete b', bad)):
                shell = started()
                commands = commands if bad != 'advance 0' else ('advance 1',) + commands
                check_raises(self, error, shell.run_all, commands)
                done = commands[:commands.index(bad)]
                self.assertEqual(len(shell), 4 + len(done) + 1)
                expected = started(*done)
                self.assertEqual(plain_state(shell.service()), plain_state(expected.service()))

    def test_commands_that_are_no_tuple(self):
        for value in ODD_VALUES + ('select', ['select'], [], {'select': 1}, made()):
            if not isinstance(value, tuple):
                shell = started()
                before = copy.deepcopy(shell)
                check_raises(self, InvalidCommand, shell.run_all, value)
                self.assertEqual((len(shell), shell), (len(before), before))
        shell = Shell()
        check_raises(self, InvalidCommand, shell.run_all, [SERVICE])
        self.assertEqual((len(shell), shell.service()), (0, None))

    def test_equality(self):
        one = started()
        for other in (started('select', 'now'), started('delete a', 'undo'), started(inserts=INSERTS[::-1])):
            self.assertIs(one == other, True)
            self.assertIs(one != other, False)
        self.assertNotEqual(len(one), len(started('select')))
        for other in (Shell(), started('delete a'), started('advance 1'), started(service='service 1 3 top 1 0 asc'),
                      started(inserts=())):
            for first, second in ((one, other), (other, one)):
                self.assertIs(first == second, False)
                self.assertIs(first != second, True)
        empty = Shell()
        self.assertRaises(InvalidCommand, empty.run, 'select')
        self.assertIs(Shell() == empty, True)
        self.assertIs(Shell() != empty, False)
        for shell in (one, empty):
            for value in ODD_VALUES + (one.service(), made(), fed(), str(shell), [shell]):
                self.assertIs(shell == value, False)
                self.assertIs(shell != value, True)
        self.assertEqual(one.service(), serving())


if __name__ == '__main__':
    unittest.main()
