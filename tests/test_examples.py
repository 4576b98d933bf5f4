"""The examples of the document, exactly as they stand there."""

import doctest
import unittest

EXAMPLES = {
    "words": """
>>> from branchorders.words import extended, flipped, inverted, outcome, signed
>>> [signed(4, 9), outcome(4, 7, 8), outcome(4, 15, 8), flipped(4, (7, 8)), inverted(4, (7, 8)), extended(4, (7, 8), 6, True)]
[-7, 'GB', 'GA', (15, 0), (8, 7), (7, 56)]
""",
    "outcomes": """
>>> from branchorders.outcomes import composed, condition_of, exchanged, outcomes_of, reversed_condition, shortest_chain
>>> [outcomes_of('be'), condition_of(('LA', 'GB')), composed('GB', 'LA'), exchanged('le'), reversed_condition('l'), len(shortest_chain(('LA',))[0]), shortest_chain(())]
[('E', 'LB', 'GB'), 'mixed', ('E', 'LB', 'GA'), 'be', 'g', 2, ((), False)]
""",
}


class ExamplesTest(unittest.TestCase):

    def test_examples(self):
        for name, text in EXAMPLES.items():
            with self.subTest(name):
                test = doctest.DocTestParser().get_doctest(text, {}, name, None, None)
                self.assertEqual(len(test.examples), 2)
                told = []
                results = doctest.DocTestRunner(verbose=False).run(test, out=told.append)
                self.assertEqual((results.failed, results.attempted), (0, 2), "".join(told))


if __name__ == "__main__":
    unittest.main()
