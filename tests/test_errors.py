import unittest

from firstletter import errors
from tests.examples import Case

FAMILIES = ('PaperError', 'WebError', 'LiveError', 'TextError')
ERRORS = (
    ('InvalidPaper', 'PaperError', ('word', 'at')),
    ('NotUsable', 'WebError', ('word', 'at')),
    ('Missed', 'WebError', ('run', 'kind')),
    ('InvalidEvent', 'LiveError', ('event', 'reason')),
    ('NothingToUndo', 'LiveError', ('steps',)),
    ('InvalidText', 'TextError', ('line', 'field')),
    ('InvalidRow', 'TextError', ('row',)),
)


class ErrorsTest(Case):

    def test_families(self):
        self.assertEqual(errors.LetterError.__bases__, (ValueError,))
        for name in FAMILIES:
            self.assertEqual(getattr(errors, name).__bases__, (errors.LetterError,), name)

    def test_each_error_is_derived_directly_from_its_family(self):
        for name, family, _ in ERRORS:
            self.assertEqual(getattr(errors, name).__bases__, (getattr(errors, family),), name)

    def test_all_are_defined_in_the_file(self):
        for name in ('LetterError', *FAMILIES, *[row[0] for row in ERRORS]):
            self.assertEqual(getattr(errors, name).__module__, 'firstletter.errors')

    def test_fields_are_the_very_objects(self):
        values = ([1, [2]], ('x', True), None, -1, 'word', [None], object(), 10 ** 59)
        for name, _, fields in ERRORS:
            for k in range(len(values)):
                given = [values[k], [values[k]]][:len(fields)]
                by_position = getattr(errors, name)(*given)
                by_name = getattr(errors, name)(**dict(reversed(list(zip(fields, given)))))
                for error in (by_position, by_name):
                    for field, value in zip(fields, given):
                        self.assertIs(getattr(error, field), value, name)

    def test_no_other_fields(self):
        for name, _, fields in ERRORS:
            error = getattr(errors, name)(*fields)
            self.assertEqual(sorted(key for key in vars(error) if not key.startswith('_')), sorted(fields))

    def test_exactly_the_fields(self):
        for name, _, fields in ERRORS:
            with self.assertRaises(TypeError):
                getattr(errors, name)(*fields[1:])
            with self.assertRaises(TypeError):
                getattr(errors, name)(*fields, 1)
            with self.assertRaises(TypeError):
                getattr(errors, name)(*fields[1:], other=1)

    def test_raised_and_caught_by_family(self):
        for name, family, fields in ERRORS:
            for base in (getattr(errors, family), errors.LetterError, ValueError):
                with self.assertRaises(base) as caught:
                    raise getattr(errors, name)(*fields)
                self.assertEqual(fields, tuple(getattr(caught.exception, field) for field in fields))


if __name__ == '__main__':
    unittest.main()
