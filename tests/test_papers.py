"""papers.py: what holds for every paper."""

import unittest

from helpers import ANY, Case, alike
from wheelreach.compared import Fails, Holds
from wheelreach.design import Cheapest, NoChoice
from wheelreach.joins import Join
from wheelreach.logs import Stretch
from wheelreach.nearest import Nearest
from wheelreach.papers import Paper
from wheelreach.reaches import Sure, Unsure
from wheelreach.readings import Noticed, Spread, Told
from wheelreach.speeds import Drifts, Kept
from wheelreach.stairs import Slip

PAPERS = [(Join, ("tables",)), (Sure, ("tables",)), (Unsure, ("low", "high", "marks", "low_off", "high_off")),
          (Slip, ("k", "certificate", "counterexample")), (Kept, ("edge", "certificate")),
          (Drifts, ("edge", "counterexample")), (Told, ("low", "high", "tables")), (Spread, ("low", "high")),
          (Noticed, ("tables",)), (Nearest, ("strain", "runs", "less", "tables")), (Holds, ("tables",)),
          (Fails, ("d",)), (Cheapest, ("names", "price", "certificate", "bars")), (NoChoice, ("bar",)),
          (Stretch, ("begin", "width", "left"))]
FALSE = (Unsure, Drifts, Spread, Noticed, Fails, NoChoice)


class Papers(Case):
    def test_below_paper(self):
        for made, _ in PAPERS:
            self.assertTrue(issubclass(made, Paper))

    def test_attributes_by_position_and_by_name(self):
        for made, names in PAPERS:
            for value in ANY:
                values = [value] * len(names)
                for paper in (made(*values), made(**dict(zip(names, values)))):
                    self.assertEqual(sorted(vars(paper)), sorted(names))
                    for name in names:
                        self.assertIs(getattr(paper, name), value)

    def test_each_name_has_its_own_value(self):
        for made, names in PAPERS:
            paper = made(*range(len(names)))
            self.assertEqual([getattr(paper, name) for name in names], list(range(len(names))))

    def test_equal_if_all_attributes_are(self):
        for made, names in PAPERS:
            one = [("a", at) for at in range(len(names))]
            self.assertTrue(made(*one) == made(*one))
            self.assertFalse(made(*one) != made(*one))
            for at in range(len(names)):
                other = list(one)
                other[at] = "b"
                self.assertFalse(made(*one) == made(*other))
                self.assertTrue(made(*one) != made(*other))

    def test_equal_attributes_of_any_kind(self):
        for made, names in PAPERS:
            for one in ANY:
                for other in ANY:
                    if isinstance(one, bool) or isinstance(other, bool):
                        continue
                    equal = made(*[one] * len(names)) == made(*[other] * len(names))
                    self.assertEqual(equal, one == other)

    def test_papers_of_other_classes_are_not_equal(self):
        for made, names in PAPERS:
            for value in [*ANY, Sure(()), Unsure((), (), (), (), ()), Join(())]:
                if type(value) is not made:
                    self.assertFalse(made(*[()] * len(names)) == value)
                    self.assertTrue(made(*[()] * len(names)) != value)

    def test_truth(self):
        for made, names in PAPERS:
            for value in ANY:
                wanted = made not in FALSE and not (made is Slip and alike(value, -1))
                self.assertIs(bool(made(*[value] * len(names))), wanted)

    def test_alike_counts_kinds(self):
        self.assertFalse(alike((1, (True,)), (1, (1,))))
        self.assertFalse(alike([1], (1,)))
        self.assertTrue(alike((1, [2]), (1, [2])))


if __name__ == "__main__":
    unittest.main()
