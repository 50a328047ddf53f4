import unittest

from everso import errors

# Each refusal, the one class it stands straight under, its fields in order.
REFUSALS = (
    (errors.NoText, errors.SoError, ("line",)),
    (errors.NoProgram, errors.SoError, ()),
    (errors.NoName, errors.SoError, ()),
    (errors.NoWorth, errors.SoError, ()),
    (errors.NoEdit, errors.SoError, ("k",)),
    (errors.NotYet, errors.SoError, ("many",)),
    (errors.Busy, errors.SoError, ()),
    (errors.Said, errors.SoError, ("k", "one", "other")),
    (errors.TooLong, errors.SoError, ("most",)),
    (errors.TooDeep, errors.SoError, ("deep",)),
    (errors.NoCell, KeyError, ("name",)),
    (errors.NoModule, KeyError, ("module",)),
    (errors.NoThing, IndexError, ("k",)),
    (errors.NoStep, IndexError, ("step",)),
)
FAMILIES = (errors.SoError, KeyError, IndexError)


def deep_list():
    inner = []
    for _ in range(40):
        inner = [inner]
    return inner


def anything():
    return (
        None, True, False, 0, -1, 10 ** 39, "", "main", "a\n" * 4000, (), (1, (True,)),
        ("row", (1, "a")), [], [1, [2]], {}, {"a": [1]}, deep_list(),
    )


class Families(unittest.TestCase):
    def test_the_own_family_is_under_value_error_alone(self):
        self.assertEqual(errors.SoError.__bases__, (ValueError,))
        self.assertEqual(errors.SoError.__module__, "everso.errors")

    def test_each_refusal_stands_straight_under_its_family_alone(self):
        for refusal, family, _ in REFUSALS:
            with self.subTest(refusal.__name__):
                self.assertEqual(refusal.__bases__, (family,))
                self.assertEqual(refusal.__module__, "everso.errors")

    def test_no_refusal_is_of_another_family(self):
        for refusal, family, _ in REFUSALS:
            for other in FAMILIES:
                with self.subTest(refusal=refusal.__name__, other=other.__name__):
                    self.assertEqual(issubclass(refusal, other), other is family)

    def test_only_those_of_the_own_family_are_value_errors(self):
        for refusal, family, _ in REFUSALS:
            with self.subTest(refusal.__name__):
                self.assertEqual(issubclass(refusal, ValueError), family is errors.SoError)

    def test_no_refusal_is_another_one(self):
        for refusal, _, _ in REFUSALS:
            for other, _, _ in REFUSALS:
                with self.subTest(refusal=refusal.__name__, other=other.__name__):
                    self.assertEqual(issubclass(refusal, other), refusal is other)


class Fields(unittest.TestCase):
    def check(self, refusal, fields, given):
        """given has one thing for each field; each of these is handed in as it is."""
        made = {
            "by places": refusal(*given),
            "by names": refusal(**dict(zip(fields, given))),
            "by names, turned": refusal(**dict(reversed(list(zip(fields, given))))),
        }
        for way, one in made.items():
            with self.subTest(refusal=refusal.__name__, way=way):
                self.assertEqual(sorted(vars(one)), sorted(fields))
                for field, thing in zip(fields, given):
                    self.assertIs(getattr(one, field), thing)

    def test_a_field_is_what_was_handed_in(self):
        for refusal, _, fields in REFUSALS:
            for thing in anything():
                # Unlike ones in the other places show whether two were mixed up.
                self.check(refusal, fields, (thing, ["second"], ["third"])[:len(fields)])

    def test_what_is_handed_in_is_not_changed(self):
        for refusal, _, fields in REFUSALS:
            given = [[1, [2]], {"a": [3]}, ("row", ([4],))][:len(fields)]
            refusal(*given)
            self.assertEqual(given, [[1, [2]], {"a": [3]}, ("row", ([4],))][:len(fields)])

    def test_two_refusals_share_no_field(self):
        for refusal, _, fields in REFUSALS:
            with self.subTest(refusal.__name__):
                first = refusal(*range(len(fields)))
                second = refusal(*range(10, 10 + len(fields)))
                self.assertEqual([getattr(first, field) for field in fields], list(range(len(fields))))
                self.assertEqual(
                    [getattr(second, field) for field in fields], list(range(10, 10 + len(fields)))
                )

    def test_a_field_is_not_the_classes(self):
        for refusal, _, fields in REFUSALS:
            for field in fields:
                with self.subTest(refusal=refusal.__name__, field=field):
                    self.assertFalse(hasattr(refusal, field))


class Raised(unittest.TestCase):
    def test_it_is_taken_by_itself_and_by_its_family(self):
        for refusal, family, fields in REFUSALS:
            for taken in (refusal, family):
                with self.subTest(refusal=refusal.__name__, taken=taken.__name__):
                    with self.assertRaises(taken) as caught:
                        raise refusal(*fields)
                    self.assertIs(type(caught.exception), refusal)
                    for field in fields:
                        self.assertEqual(getattr(caught.exception, field), field)

    def test_no_other_family_takes_it(self):
        for refusal, family, fields in REFUSALS:
            others = tuple(other for other in FAMILIES if other is not family)
            with self.subTest(refusal.__name__):
                try:
                    raise refusal(*fields)
                except others:
                    self.fail("another family took it")
                except family:
                    pass


if __name__ == "__main__":
    unittest.main()
