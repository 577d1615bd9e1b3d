"""Point 108: the exceptions, their arguments and their classes."""

import inspect

from helper import Case, odd_values
from tasterow import errors

ARGUMENTS = {
    "NoRanking": ("ranking",),
    "NoWeight": ("weight",),
    "NoTaster": ("taster",),
    "NoDish": ("dish",),
    "NoIndex": ("index",),
    "NotSeatable": ("obstruction",),
    "NoSeating": (),
    "NoMenu": (),
    "NoSize": ("size",),
    "NoCuts": (),
    "NoSpan": (),
    "NoPlaces": (),
    "TooMany": ("limit",),
    "LastOne": (),
    "Empty": (),
    "BadDishes": ("dishes",),
    "NoName": ("name",),
    "UnknownName": ("name",),
    "NameTaken": ("name",),
    "NothingToUndo": (),
    "NoMoment": ("at",),
    "NoOperations": (),
    "Failed": ("index",),
    "Blocked": ("obstruction",),
    "BadText": ("line",),
}


def create(name, values):
    return getattr(errors, name)(*values)


class Arguments(Case):

    def test_there_are_25_and_taste_error(self):
        self.assertEqual(len(ARGUMENTS), 25)
        defined = {
            name for name, thing in vars(errors).items()
            if inspect.isclass(thing) and issubclass(thing, BaseException)
        }
        self.assertEqual(defined, {*ARGUMENTS, "TasteError"})

    def test_arguments_become_attributes_unchanged(self):
        for name, parameters in ARGUMENTS.items():
            for value in odd_values():
                with self.subTest(name=name, value=value):
                    before = repr(value)
                    values = [value for parameter in parameters]
                    found = vars(create(name, values))
                    self.assertEqual(tuple(found), parameters)
                    for parameter in parameters:
                        self.assertIs(found[parameter], value)
                    self.assertEqual(repr(value), before)

    def test_arguments_may_be_passed_by_name(self):
        for name, parameters in ARGUMENTS.items():
            with self.subTest(name=name):
                given = {parameter: [parameter] for parameter in parameters}
                self.assertEqual(vars(getattr(errors, name)(**given)), given)

    def test_attributes_of_two_objects_are_independent(self):
        one, other = errors.NoIndex(1), errors.NoIndex([2])
        self.same((one.index, other.index), (1, [2]))


class Classes(Case):

    def test_taste_error_is_a_value_error(self):
        self.assertEqual(errors.TasteError.__bases__, (ValueError,))

    def test_each_is_a_direct_subclass_of_taste_error(self):
        for name in ARGUMENTS:
            with self.subTest(name=name):
                self.assertEqual(getattr(errors, name).__bases__, (errors.TasteError,))

    def test_each_is_an_instance_of_no_other_exception(self):
        for name, parameters in ARGUMENTS.items():
            error = create(name, [0 for parameter in parameters])
            self.assertIsInstance(error, errors.TasteError)
            self.assertIsInstance(error, ValueError)
            for other in ARGUMENTS:
                with self.subTest(name=name, other=other):
                    self.assertEqual(isinstance(error, getattr(errors, other)), name == other)

    def test_each_can_be_raised_and_caught(self):
        for name, parameters in ARGUMENTS.items():
            error = create(name, [None for parameter in parameters])
            for caught in (getattr(errors, name), errors.TasteError, ValueError):
                with self.subTest(name=name, caught=caught):
                    with self.assertRaises(caught) as raised:
                        raise error
                    self.assertIs(raised.exception, error)

    def test_each_is_named_as_documented(self):
        # The log of a board and the console show this name.
        for name in [*ARGUMENTS, "TasteError"]:
            with self.subTest(name=name):
                self.assertEqual(getattr(errors, name).__name__, name)
                self.assertEqual(getattr(errors, name).__module__, "tasterow.errors")
