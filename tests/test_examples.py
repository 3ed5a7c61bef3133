"""The examples that the interface gives, exactly."""

import doctest
import pathlib
import unittest

README = pathlib.Path(__file__).resolve().parent.parent / "README.md"

EXAMPLES = """
>>> from midwalk.drops import after_first_pass, after_pass, after_passes, by_numbers, passes_needed, runs, visited_places
>>> after_pass([1], [1, 1, 1, 2, 1]), visited_places([1], [1, 1, 1, 2, 1])
([1, 2], [0, 2, 4])
>>> runs([1], [1, 1, 1, 2, 1]), passes_needed([1], [1, 1, 1, 2, 1])
([(0, 3), (4, 1)], 2)
>>> after_passes([1], [1, 1, 1, 1, 2], passes=2), after_first_pass([1], [1, 1, 2, 1])
([1, 2], [2, 1])
>>> by_numbers([1], [1, 2]), by_numbers([1], [2, 1])
(([2], 1), ([2], None))

>>> from midwalk.counts import count_before, count_right, each_before
>>> count_before([1], [2]), list(each_before([1], [2]))
(4, [[1, 2], [1, 2, 1], [2], [2, 1]])
>>> [count_right(size, 1, 1) for size in [1, 2, 3, 4]]
[2, 3, 5, 8]

>>> from midwalk.rows import are_alike, kept_places, may_exchange, parting_list
>>> kept_places([[1], [2]], [1, 2, 2, 2])
[2]
>>> parting_list([[1], [2]], [[2], [1]]), parting_list([[1], [1, 2]], [[1, 2], [1]])
([1, 2, 1], [1, 2])
>>> are_alike([[1], []], [[1]]), may_exchange([1], [2])
(True, False)

>>> from midwalk.grows import grown_at_end, grown_behind, length_of, ring, value_at_end, value_behind, visited_behind
>>> brings = {3: [1, 2], 2: [1]}
>>> grown_at_end(brings, [3, 2]), grown_behind(brings, [3, 2])
([3, 2, 1, 2, 1, 1], [3, 1, 2, 1, 2, 1])
>>> doubles = {number: [number - 1, number - 1] for number in range(1, 12)}
>>> length_of(doubles, [11]), value_at_end(doubles, [11], 2046), value_behind(doubles, [11], 11)
(4095, 1, 0)
>>> ring({1: [2], 2: [1]}, [3]) is None, ring({1: [2], 2: [3], 3: [2]}, [5, 1])
(True, [2, 3])
>>> [visited_behind({1: [2, 1, 4]}, [3, 1, 5], place) for place in [0, 1, 2, 3, 10 ** 15]]
[3, 1, 2, 1, 2]

>>> from midwalk.doublets import after_doublet_pass, comes_out_right, count_right_lists, doublet_visits
>>> after_doublet_pass([5, 5, 5, 5, 7]), doublet_visits([5, 5, 5, 5, 7])
([5, 5, 7], [0, 2, 4])
>>> comes_out_right([5, 5, 7, 5]), count_right_lists(4, 2)
(True, 14)

>>> from midwalk.text import format_brings, parse_brings, parse_values
>>> format_brings({3: [1, 2], 2: [], -1: [3]})
'-1: 3\\n2:\\n3: 1 2'
>>> parse_brings('2:\\n3: 1 2'), parse_values('4 -5')
({2: [], 3: [1, 2]}, [4, -5])
"""


class ExamplesTest(unittest.TestCase):

    def check(self, text, many):
        examples = doctest.DocTestParser().get_doctest(text, {}, "examples", None, 0)
        told = []
        result = doctest.DocTestRunner().run(examples, out=told.append)
        self.assertEqual(result.failed, 0, "".join(told))
        self.assertEqual(result.attempted, many)

    def test_examples_of_the_interface(self):
        self.check(EXAMPLES, 25)

    def test_examples_of_the_readme(self):
        # The end of a block would be taken for a part of what is told.
        lines = README.read_text().split("\n")
        self.check("\n".join("" if line == "```" else line for line in lines), 32)


if __name__ == "__main__":
    unittest.main()
