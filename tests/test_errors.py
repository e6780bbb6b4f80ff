"""Point 3 and the interface's errors.py."""

import unittest

from stretchbook.errors import NoLine, NoName, NoShelf, NoSpan, SpanError, Stuck

REFUSALS = (NoSpan, NoShelf, Stuck, NoName, NoLine)


class TestPlaces(unittest.TestCase):
    def test_the_base_stands_under_value_error(self):
        self.assertTrue(issubclass(SpanError, ValueError))

    def test_each_refusal_stands_straight_under_the_base(self):
        for refusal in REFUSALS:
            self.assertEqual(refusal.__bases__, (SpanError,), refusal)

    def test_none_stands_under_another_one(self):
        for one in REFUSALS:
            for other in REFUSALS:
                self.assertEqual(issubclass(one, other), one is other, (one, other))

    def test_each_is_taken_as_the_base_and_as_a_value_error(self):
        for refusal in REFUSALS:
            for base in (SpanError, ValueError):
                with self.assertRaises(base):
                    raise refusal("x")


class TestFields(unittest.TestCase):
    def test_place(self):
        for refusal in (NoSpan, NoShelf):
            for place in (0, 1, 400):
                self.assertEqual(refusal(place).place, place)
                self.assertEqual(refusal(place=place).place, place)

    def test_paper(self):
        paper = ("open", "a", "", (((1, 0, 0, ()), ("broken", "", "a", ())),))
        self.assertEqual(Stuck(paper).paper, paper)
        self.assertEqual(Stuck(paper=paper).paper, paper)

    def test_each_object_has_its_own(self):
        first = NoSpan(1)
        second = NoSpan(2)
        self.assertEqual((first.place, second.place), (1, 2))

    def test_made_of_a_text(self):
        for refusal in (SpanError, NoName, NoLine):
            self.assertIn("abc", str(refusal("abc")))

    def test_the_field_must_be_handed_in(self):
        for refusal in (NoSpan, NoShelf, Stuck):
            with self.assertRaises(TypeError):
                refusal()


if __name__ == "__main__":
    unittest.main()
