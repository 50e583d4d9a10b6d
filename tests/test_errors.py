import unittest

from fewthings import errors

OF_A_TEXT = [errors.NoSigns, errors.NoSaying, errors.NoSize, errors.NoPart, errors.NoWorld, errors.NoNaming,
             errors.NoRow]
ALL = OF_A_TEXT + [errors.NoText, errors.TooMany]


class Errors(unittest.TestCase):
    def test_few_error_is_a_value_error(self):
        self.assertEqual(errors.FewError.__bases__, (ValueError,))

    def test_each_stands_straight_under_few_error(self):
        for refusal in ALL:
            self.assertEqual(refusal.__bases__, (errors.FewError,))

    def test_none_stands_under_another(self):
        for refusal in ALL:
            for other in ALL:
                self.assertEqual(issubclass(refusal, other), refusal is other)

    def test_names(self):
        names = sorted([refusal.__name__ for refusal in ALL])
        self.assertEqual(names, sorted(["NoSigns", "NoSaying", "NoText", "NoSize", "NoPart", "NoWorld", "TooMany",
                                        "NoNaming", "NoRow"]))

    def test_made_of_nothing_and_of_a_text(self):
        for refusal in OF_A_TEXT + [errors.FewError]:
            self.assertIsInstance(refusal(), ValueError)
            self.assertEqual(str(refusal()), "")
            self.assertEqual(str(refusal("some words")), "some words")

    def test_row_of_no_text(self):
        for row in (0, 1, 17):
            self.assertEqual(errors.NoText(row).row, row)
            self.assertEqual(errors.NoText(row=row).row, row)

    def test_many_of_too_many(self):
        for many in (577, 4097, 10 ** 40):
            self.assertEqual(errors.TooMany(many).many, many)
            self.assertEqual(errors.TooMany(many=many).many, many)

    def test_a_field_is_needed(self):
        for refusal in (errors.NoText, errors.TooMany):
            with self.assertRaises(TypeError):
                refusal()

    def test_fields_of_two_have_nothing_to_do_with_one_another(self):
        one, other = errors.NoText(1), errors.NoText(2)
        other.row = 3
        self.assertEqual((one.row, other.row), (1, 3))

    def test_raised_and_taken(self):
        for made in [refusal("words") for refusal in OF_A_TEXT] + [errors.NoText(3), errors.TooMany(many=5000)]:
            for taken in (errors.FewError, ValueError, made.__class__):
                with self.assertRaises(taken):
                    raise made


if __name__ == "__main__":
    unittest.main()
