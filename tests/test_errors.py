import unittest

from lenthaste import errors
from lenthaste.shops import begun, step_of
from tests.samples import CLASSES, check_refused, worker


class Errors(unittest.TestCase):
    def test_names_and_places(self):
        names = ["TooMany", "BadWorker", "BadRank", "BadStart", "BadPlan", "NoWorker"]
        self.assertEqual([one.__name__ for one in CLASSES], names)
        for one in CLASSES + [errors.HasteError]:
            self.assertEqual(one.__module__, "lenthaste.errors")

    def test_each_stands_straight_under_haste_error(self):
        self.assertEqual(errors.HasteError.__bases__, (ValueError,))
        for one in CLASSES:
            self.assertEqual(one.__bases__, (errors.HasteError,))

    def test_made_from_one_text(self):
        for one in CLASSES + [errors.HasteError]:
            made = one("some words")
            self.assertEqual(str(made), "some words")
            self.assertEqual(made.args, ("some words",))
            self.assertIsInstance(made, errors.HasteError)
            self.assertIsInstance(made, ValueError)

    def test_none_is_another(self):
        for one in CLASSES:
            for other in CLASSES:
                self.assertEqual(isinstance(one("words"), other), one is other)

    def test_caught_as_value_error(self):
        for one in CLASSES:
            with self.assertRaises(ValueError):
                raise one("words")

    def test_each_as_it_is_raised(self):
        check_refused(self, errors.TooMany, begun, [])
        check_refused(self, errors.BadWorker, begun, [None])
        check_refused(self, errors.BadRank, begun, [worker(rank=0)])
        check_refused(self, errors.BadStart, begun, [worker(start=-1)])
        check_refused(self, errors.BadPlan, begun, [worker(plan=[])])
        check_refused(self, errors.NoWorker, step_of, begun([worker()]), 1)

    def test_each_that_is_raised_has_a_text(self):
        for given in ([], [None], [worker(rank=0)], [worker(start=-1)], [worker(plan=[])]):
            with self.assertRaises(errors.HasteError) as caught:
                begun(given)
            self.assertEqual([type(text) for text in caught.exception.args], [str])


if __name__ == "__main__":
    unittest.main()
