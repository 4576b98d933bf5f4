"""The examples of the document, exactly as they stand there."""

import doctest
import unittest

EXAMPLES = {
    "words": """
>>> from branchorders.words import extended, flipped, inverted, outcome, signed
>>> [signed(4, 9), outcome(4, 7, 8), outcome(4, 15, 8), flipped(4, (7, 8)), inverted(4, (7, 8)), extended(4, (7, 8), 6, True)]
[-7, 'GB', 'GA', (15, 0), (8, 7), (7, 56)]
""",
    "outcomes": """
>>> from branchorders.outcomes import composed, condition_of, exchanged, outcomes_of, reversed_condition, shortest_chain
>>> [outcomes_of('be'), condition_of(('LA', 'GB')), composed('GB', 'LA'), exchanged('le'), reversed_condition('l'), len(shortest_chain(('LA',))[0]), shortest_chain(())]
[('E', 'LB', 'GB'), 'mixed', ('E', 'LB', 'GA'), 'be', 'g', 2, ((), False)]
""",
    "rankings": """
>>> from branchorders.rankings import count_rankings, count_words, least_width, least_words, nth_ranking, outcome_in, ranking_of
>>> found = ranking_of(4, (9, 2, 9))
>>> [found, outcome_in(found, 0, 1), least_width(found), least_words(found, 1), count_words(found, 4), [count_rankings(items) for items in (1, 2, 3, 4)], nth_ranking(2, 0)]
[((1, 0, 1), 1), 'LA', 1, (1, 0, 1), 64, [2, 8, 44, 308], ((0, 0), 0)]
""",
    "knowledge": """
>>> from branchorders.knowledge import closure, contradiction, count_fulfilling, first_fulfilling
>>> known = [(0, 1, ('GB',)), (1, 2, ('LB', 'E'))]
>>> [closure(3, known)[1], contradiction(3, known + [(0, 2, ('E', 'LA'))]), first_fulfilling(3, known, 2), count_fulfilling(3, known, 2)]
[(0, 2, ('GB',)), [0, 1, 2], (0, 2, 2), 6]
""",
    "programs": """
>>> from branchorders.programs import Program
>>> least = Program(2, [('cmp', 'p', 'q'), ('jif', 'be', 3), ('mov', 'p', 'q'), ('out', 'p')])
>>> [len(least), least.without(0).rows[0], least.exchanged().rows[1], least.mirrored().rows[1], (least + least).rows[5]]
[4, ('jif', 'be', 2), ('jif', 'le', 3), ('jif', 'ae', 3), ('jif', 'be', 7)]
""",
    "runs": """
>>> from branchorders.programs import Program
>>> from branchorders.runs import behaviour, count_steps, nth_out, run, steps
>>> least = Program(2, [('cmp', 'p', 'q'), ('jif', 'be', 3), ('mov', 'p', 'q'), ('out', 'p')])
>>> turn = Program(2, [('out', 'p'), ('swap', 'p', 'q'), ('jump', 0)])
>>> [run(least, 4, (9, 2)), count_steps(least, 4, (9, 2)), list(steps(least, 4, (2, 9))), run(turn, 4, (9, 2)), nth_out(turn, 4, (9, 2), 10 ** 30 + 1), behaviour(turn, ((0, 0), 1))]
[('stop', (2,), ()), 4, [(0, 'GB'), (1, 'GB'), (3, 'GB')], ('endless', (), (9, 2)), 2, ('endless', (), (0,))]
""",
}


class ExamplesTest(unittest.TestCase):

    def test_examples(self):
        for name, text in EXAMPLES.items():
            with self.subTest(name):
                test = doctest.DocTestParser().get_doctest(text, {}, name, None, None)
                many = text.count(">>> ")
                self.assertEqual(len(test.examples), many)
                told = []
                results = doctest.DocTestRunner(verbose=False).run(test, out=told.append)
                self.assertEqual((results.failed, results.attempted), (0, many), "".join(told))


if __name__ == "__main__":
    unittest.main()
