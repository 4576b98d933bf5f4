"""The examples of the document, exactly as they stand there, and those of README.md."""

import doctest
import pathlib
import unittest

from branchorders.errors import Unreadable
from branchorders.readings import read_program

EXAMPLES = {
    "words": """
>>> from branchorders.words import extended, flipped, inverted, outcome, signed
>>> [signed(4, 9), outcome(4, 7, 8), outcome(4, 15, 8), flipped(4, (7, 8)), inverted(4, (7, 8)), extended(4, (7, 8), 6, True)]
[-7, 'GB', 'GA', (15, 0), (8, 7), (7, 56)]
""",
    "outcomes": """
>>> from branchorders.outcomes import composed, condition_of, exchanged, outcomes_of, reversed_condition, shortest_chain
>>> [outcomes_of('be'), condition_of(('LA', 'GB')), composed('GB', 'LA'), exchanged('le'), reversed_condition('l'), len(shortest_chain(('LA',))[0]), shortest_chain(())]
[('E', 'LB', 'GB'), 'mixed', ('E', 'LB', 'GA'), 'be', 'g', 2, ((), False)]
""",
    "rankings": """
>>> from branchorders.rankings import count_rankings, count_words, least_width, least_words, nth_ranking, outcome_in, ranking_of
>>> found = ranking_of(4, (9, 2, 9))
>>> [found, outcome_in(found, 0, 1), least_width(found), least_words(found, 1), count_words(found, 4), [count_rankings(items) for items in (1, 2, 3, 4)], nth_ranking(2, 0)]
[((1, 0, 1), 1), 'LA', 1, (1, 0, 1), 64, [2, 8, 44, 308], ((0, 0), 0)]
""",
    "knowledge": """
>>> from branchorders.knowledge import closure, contradiction, count_fulfilling, first_fulfilling
>>> known = [(0, 1, ('GB',)), (1, 2, ('LB', 'E'))]
>>> [closure(3, known)[1], contradiction(3, known + [(0, 2, ('E', 'LA'))]), first_fulfilling(3, known, 2), count_fulfilling(3, known, 2)]
[(0, 2, ('GB',)), [0, 1, 2], (0, 2, 2), 6]
""",
    "programs": """
>>> from branchorders.programs import Program
>>> least = Program(2, [('cmp', 'p', 'q'), ('jif', 'be', 3), ('mov', 'p', 'q'), ('out', 'p')])
>>> [len(least), least.without(0).rows[0], least.exchanged().rows[1], least.mirrored().rows[1], (least + least).rows[5]]
[4, ('jif', 'be', 2), ('jif', 'le', 3), ('jif', 'ae', 3), ('jif', 'be', 7)]
""",
    "runs": """
>>> from branchorders.programs import Program
>>> from branchorders.runs import behaviour, count_steps, nth_out, run, steps
>>> least = Program(2, [('cmp', 'p', 'q'), ('jif', 'be', 3), ('mov', 'p', 'q'), ('out', 'p')])
>>> turn = Program(2, [('out', 'p'), ('swap', 'p', 'q'), ('jump', 0)])
>>> [run(least, 4, (9, 2)), count_steps(least, 4, (9, 2)), list(steps(least, 4, (2, 9))), run(turn, 4, (9, 2)), nth_out(turn, 4, (9, 2), 10 ** 30 + 1), behaviour(turn, ((0, 0), 1))]
[('stop', (2,), ()), 4, [(0, 'GB'), (1, 'GB'), (3, 'GB')], ('endless', (), (9, 2)), 2, ('endless', (), (0,))]
""",
    "comparing": """
>>> from branchorders.comparing import are_alike, first_difference, parting_width
>>> from branchorders.programs import Program
>>> least = Program(2, [('cmp', 'p', 'q'), ('jif', 'be', 3), ('mov', 'p', 'q'), ('out', 'p')])
>>> [are_alike(least, least.exchanged()), parting_width(least, least.exchanged()), first_difference(least, least.exchanged(), 8)]
[False, 1, (0, 128)]
""",
    "facts": """
>>> from branchorders.facts import acting, dead_rows, first_reaching, outcomes_at, simplified
>>> from branchorders.programs import Program
>>> least = Program(2, [('cmp', 'p', 'q'), ('jif', 'be', 3), ('mov', 'p', 'q'), ('out', 'p'), ('stop',), ('out', 'q')])
>>> [dead_rows(least), acting(least, 1), outcomes_at(least, 3, 'p', 'q'), first_reaching(least, 2, 8), simplified(least).rows[-1]]
[[5], ('acts', 'passes'), ('E', 'LB', 'GB'), (1, 0), ('out', 'p')]
""",
    "counting": """
>>> from branchorders.counting import average_limit, average_steps, count_inputs, nth_input
>>> from branchorders.programs import Program
>>> least = Program(2, [('cmp', 'p', 'q'), ('jif', 'be', 3), ('mov', 'p', 'q'), ('out', 'p')])
>>> [count_inputs(least, 1, ('steps', 4, 4)), count_inputs(least, 64, ('steps', 4, 4)) == 2 ** 63 * (2 ** 64 - 1), nth_input(least, 2, ('steps', 4, 4), 2), average_steps(least, 1), average_limit(least)]
[1, True, (2, 1), (13, 4), (7, 2)]
""",
    "logs": """
>>> from branchorders.logs import count_fitting, decisions, next_decisions, relations
>>> from branchorders.programs import Program
>>> order = Program(2, [('cmp', 'p', 'q'), ('jif', 'be', 3), ('swap', 'p', 'q'), ('jif', 'l', 0), ('out', 'p')])
>>> [decisions(order, 4, (9, 2), 5), count_fitting(order, 1, [True, None]), relations(order, [True, False], 0, 1), next_decisions(order, [False])]
[[False, True, True, False], 3, ('E', 'GB'), ('taken', 'passed')]
""",
    "tables": """
>>> from branchorders.programs import Program
>>> from branchorders.runs import run
>>> from branchorders.tables import best_question, program_of, table_of
>>> least = Program(2, [('cmp', 'p', 'q'), ('jif', 'be', 3), ('mov', 'p', 'q'), ('out', 'p')])
>>> made = program_of(2, [outs for ending, outs, ring in [row[1] for row in table_of(least)]])
>>> [table_of(least)[2], run(made, 8, (200, 7)), best_question([least, least.exchanged(), least.mirrored()], 8)]
[(((0, 1), 0), ('stop', (0,), ())), ('stop', (7,), ()), (0, 1)]
""",
    "sessions": """
>>> from branchorders.sessions import Session
>>> session = Session.of_texts('inputs 2; cmp p q; jif be 3; mov p q; out p', 4, '9 2')
>>> session.break_at(3)
>>> first = session.go()
>>> session.poke('p', 5)
>>> [first, session.present_row, session.flag, session.registers['p'], session.go(), session.outs, list(session.log())]
['break', 3, 'LA', 5, 'over', [5], [False]]
""",
    "texts": """
>>> from branchorders.programs import Program
>>> from branchorders.texts import show_program, show_words
>>> [show_program(Program(1, [('out', 'p'), ('jump', 0)])), show_words((9, 2))]
['inputs 1; out p; jump 0', '9 2']
""",
}


README = pathlib.Path(__file__).resolve().parent.parent / "README.md"


class ExamplesTest(unittest.TestCase):

    def check(self, name, text):
        with self.subTest(name):
            test = doctest.DocTestParser().get_doctest(text, {}, name, None, None)
            many = text.count(">>> ")
            self.assertEqual(len(test.examples), many)
            told = []
            results = doctest.DocTestRunner(verbose=False).run(test, out=told.append)
            self.assertEqual((results.failed, results.attempted), (0, many), "".join(told))

    def test_examples(self):
        for name, text in EXAMPLES.items():
            self.check(name, text)

    def test_readme(self):
        self.check("README", README.read_text(encoding="utf-8").replace("```", ""))

    def test_example_of_an_error(self):
        with self.assertRaises(Unreadable) as caught:
            read_program('inputs 1; out q')
        self.assertIs(type(caught.exception), Unreadable)
        self.assertEqual(caught.exception.value, 'inputs 1; out q')


if __name__ == "__main__":
    unittest.main()
