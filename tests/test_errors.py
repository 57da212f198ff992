import unittest

from tests.helper import REFUSALS
from weblayers.errors import NoCall, NoKept, NoRoad, NoText, WebError

FIELDS = ((NoRoad, "number"), (NoText, "part"), (NoCall, "row"), (NoKept, "name"))


class Errors(unittest.TestCase):
    def test_there_are_twelve(self):
        self.assertEqual(len(set(REFUSALS)), 12)

    def test_each_is_a_web_error_and_a_value_error(self):
        self.assertTrue(issubclass(WebError, ValueError))
        for kind in REFUSALS:
            with self.subTest(kind=kind):
                self.assertTrue(issubclass(kind, WebError))
                self.assertTrue(issubclass(kind, ValueError))

    def test_none_stands_under_another(self):
        for kind in REFUSALS:
            self.assertEqual([other for other in REFUSALS if issubclass(kind, other)], [kind])
            self.assertNotEqual(kind, WebError)

    def test_each_is_caught_as_what_it_is(self):
        for kind in REFUSALS:
            for caught in (kind, WebError, ValueError):
                with self.assertRaises(caught):
                    raise kind("so")

    def test_fields_are_set_on_each_object(self):
        for kind, field in FIELDS:
            for told in (0, 3, None, "web a", "", [1], ("a",), True):
                with self.subTest(kind=kind, told=told):
                    refusal = kind(told)
                    self.assertEqual(vars(refusal), {field: told})
                    self.assertIs(getattr(refusal, field), told)

    def test_fields_are_there_where_nothing_is_told(self):
        for kind, field in FIELDS:
            self.assertIsNone(getattr(kind(), field))

    def test_fields_are_the_objects_own(self):
        for kind, field in FIELDS:
            one, other = kind(1), kind(2)
            self.assertEqual((getattr(one, field), getattr(other, field)), (1, 2))
            self.assertFalse(hasattr(kind, field))


if __name__ == "__main__":
    unittest.main()
