"""The error classes [0.3, trailkeep/errors.py]."""

import inspect
import unittest

from trailkeep import errors

WITH_THING = (
    "BadSize BadPlace BadBlock BadCut BadNumber BadDisk BadSegment BadOffset BadKey BadContent BadArea BadPuts "
    "BadDrops BadSegments BadPolicy BadRoom BadDeed BadPicture BadInode BadWords BadEntries BadKeyed BadSystem "
    "BadScripts BadWeaving BadLife"
).split()
PARAMETERS = dict({name: ("thing",) for name in WITH_THING}, PowerCut=(), NoRoot=(), Broken=("kind",), BadText=("at",))
THINGS = (None, True, 0, -1, 10 ** 40, "", "inode", (), (1, (2,)), [3], {"a": [4]}, {})


class TestErrors(unittest.TestCase):
    def test_the_classes_are_just_those_of_the_interface(self):
        found = {name for name, worth in vars(errors).items() if inspect.isclass(worth)}
        self.assertEqual(found, set(PARAMETERS) | {"TrailError"})
        self.assertEqual(len(PARAMETERS), 30)

    def test_base_classes(self):
        self.assertEqual(errors.TrailError.__bases__, (Exception,))
        for name in PARAMETERS:
            self.assertEqual(getattr(errors, name).__bases__, (errors.TrailError,), name)

    def test_parameters_are_attributes_by_position_and_by_name(self):
        for name, parameters in PARAMETERS.items():
            for parameter in parameters:
                for thing in THINGS:
                    made = getattr(errors, name)
                    self.assertIs(getattr(made(thing), parameter), thing)
                    self.assertIs(getattr(made(**{parameter: thing}), parameter), thing)

    def test_other_parameters_are_wrong(self):
        for name, parameters in PARAMETERS.items():
            made = getattr(errors, name)
            with self.assertRaises(TypeError):
                made(*parameters, "more")
            with self.assertRaises(TypeError):
                made(other=1)
            self.assertEqual(list(inspect.signature(made.__init__).parameters), ["self", *parameters])
        for name in ("BadSize", "Broken", "BadText"):
            with self.assertRaises(TypeError):
                getattr(errors, name)()

    def test_they_are_raised_and_caught(self):
        for name, parameters in PARAMETERS.items():
            made = getattr(errors, name)
            with self.assertRaises(errors.TrailError) as caught:
                raise made(*parameters)
            self.assertIs(caught.exception.__class__, made)

    def test_an_error_is_equal_only_to_itself(self):
        for name, parameters in PARAMETERS.items():
            made = getattr(errors, name)
            self.assertNotEqual(made(*parameters), made(*parameters))


if __name__ == "__main__":
    unittest.main()
