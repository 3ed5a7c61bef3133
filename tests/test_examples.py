"""The examples that the interface gives, exactly."""

import doctest
import unittest

EXAMPLES = """
>>> from midwalk.drops import after_first_pass, after_pass, after_passes, by_numbers, passes_needed, runs, visited_places
>>> after_pass([1], [1, 1, 1, 2, 1]), visited_places([1], [1, 1, 1, 2, 1])
([1, 2], [0, 2, 4])
>>> runs([1], [1, 1, 1, 2, 1]), passes_needed([1], [1, 1, 1, 2, 1])
([(0, 3), (4, 1)], 2)
>>> after_passes([1], [1, 1, 1, 1, 2], passes=2), after_first_pass([1], [1, 1, 2, 1])
([1, 2], [2, 1])
>>> by_numbers([1], [1, 2]), by_numbers([1], [2, 1])
(([2], 1), ([2], None))

>>> from midwalk.counts import count_before, count_right, each_before
>>> count_before([1], [2]), list(each_before([1], [2]))
(4, [[1, 2], [1, 2, 1], [2], [2, 1]])
>>> [count_right(size, 1, 1) for size in [1, 2, 3, 4]]
[2, 3, 5, 8]

>>> from midwalk.rows import are_alike, kept_places, may_exchange, parting_list
>>> kept_places([[1], [2]], [1, 2, 2, 2])
[2]
>>> parting_list([[1], [2]], [[2], [1]]), parting_list([[1], [1, 2]], [[1, 2], [1]])
([1, 2, 1], [1, 2])
>>> are_alike([[1], []], [[1]]), may_exchange([1], [2])
(True, False)
"""


class ExamplesTest(unittest.TestCase):

    def test_examples(self):
        examples = doctest.DocTestParser().get_doctest(EXAMPLES, {}, "examples", None, 0)
        told = []
        result = doctest.DocTestRunner().run(examples, out=told.append)
        self.assertEqual(result.failed, 0, "".join(told))
        self.assertEqual(result.attempted, 12)


if __name__ == "__main__":
    unittest.main()
