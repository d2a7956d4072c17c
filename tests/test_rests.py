"""[C7] to [C10]: rests, held against the numbers themselves."""

import math
import random
import unittest

from soundlooks import rests, stretches
from soundlooks.errors import InvalidGuard, InvalidNumber, InvalidRest, InvalidStretch, InvalidWidth
from tests.refusing import ODD, UNASKED, asked_in_order, given_wrongs

GRAIN = 2 ** 6 * 3 ** 2 * 5 * 7
DIVISORS = [d for d in range(1, GRAIN + 1) if GRAIN % d == 0]
SMALL = [()] + [(r, 0) for r in range(-5, 6)] + [(r, m) for m in (1, 2, 3, 4, 5, 6, 8, 9, 12) for r in range(m)]
GUARDS = ("<", "<=", "==", "!=")


def some_of(rest):
    """Some numbers of a rest, enough to tell it."""
    if rest == ():
        return []
    number, divisor = rest
    return [number] if divisor == 0 else [number + divisor * at for at in (-3, -1, 0, 1, 2, 5)]


def least(numbers):
    """The least rest of numbers."""
    numbers = sorted(set(numbers))
    if not numbers:
        return ()
    if len(numbers) == 1:
        return (numbers[0], 0)
    divisor = math.gcd(GRAIN, *[number - numbers[0] for number in numbers])
    return (numbers[0] % divisor, divisor)


def is_held(rest, number):
    if rest == ():
        return False
    return number == rest[0] if rest[1] == 0 else (number - rest[0]) % rest[1] == 0


class Holding(unittest.TestCase):
    def test_is_rest(self):
        self.assertEqual(len(DIVISORS), 84)
        for divisor in DIVISORS:
            for number in (0, divisor // 2, divisor - 1):
                self.assertTrue(rests.is_rest((number, divisor)))
            for number in (-1, divisor, divisor + 1, True):
                self.assertIs(rests.is_rest((number, divisor)), False)
        for value in SMALL + [(10 ** 60, 0), (-10 ** 60, 0)]:
            self.assertTrue(rests.is_rest(value))
        for divisor in range(1, 200):
            self.assertIs(rests.is_rest((0, divisor)), divisor in DIVISORS)
            self.assertFalse(rests.is_rest((0, -divisor)))
        for value in ODD + (None, 0, (1,), (1, 4, 0), [1, 4], (None, 0), (1, None), (1, "4"), (1, False), (0, True), (0, 2 * GRAIN),
                            (0, 10 ** 60), (UNASKED, 0), (0, UNASKED), ((), ())):
            self.assertIs(rests.is_rest(value), False)

    def test_holds(self):
        for rest in SMALL:
            for number in range(-30, 31):
                self.assertIs(rests.rest_holds(rest, number), is_held(rest, number))
        self.assertTrue(rests.rest_holds((1, GRAIN), 1 - 10 ** 50 * GRAIN))

    def test_within_joined_met(self):
        numbers = range(-80, 81)
        held = {rest: [n for n in numbers if is_held(rest, n)] for rest in SMALL}
        for one in SMALL:
            for two in SMALL:
                self.assertIs(rests.rest_within(one, two), set(held[one]) <= set(held[two]))
                self.assertEqual(rests.rest_joined(one, two), least(some_of(one) + some_of(two)))
                met = rests.rest_met(one, two)
                self.assertTrue(rests.is_rest(met))
                self.assertEqual([n for n in numbers if is_held(met, n)], [n for n in held[one] if n in held[two]])

    def test_met_and_joined_for_all_divisors(self):
        drawn = random.Random(7)
        for _ in range(3000):
            m, k = drawn.choice(DIVISORS), drawn.choice(DIVISORS)
            one, two = (drawn.randrange(m), m), (drawn.randrange(k), k)
            met, joined = rests.rest_met(one, two), rests.rest_joined(one, two)
            self.assertTrue(rests.is_rest(met) and rests.is_rest(joined))
            if (one[0] - two[0]) % math.gcd(m, k) != 0:
                self.assertEqual(met, ())
            else:
                self.assertEqual(met[1], m * k // math.gcd(m, k))
                self.assertEqual((met[0] % m, met[0] % k), (one[0], two[0]))
                self.assertTrue(rests.rest_within(met, one) and rests.rest_within(met, two))
            self.assertTrue(rests.rest_within(one, joined) and rests.rest_within(two, joined))
            self.assertEqual(joined, least(some_of(one) + some_of(two)))
            number = drawn.randrange(-10 ** 6, 10 ** 6)
            self.assertEqual(rests.rest_met(one, (number, 0)), (number, 0) if number % m == one[0] else ())


class Reckoning(unittest.TestCase):
    def asked(self, call, operation, is_least):
        for one in SMALL:
            for two in SMALL:
                told = [operation(x, y) for x in some_of(one) for y in some_of(two)]
                told = [number for number in told if number is not None]
                found = call(one, two)
                self.assertTrue(rests.is_rest(found))
                self.assertTrue(all(is_held(found, number) for number in told), (one, two, found))
                expected = is_least(one, two, told)
                if expected is not None:
                    self.assertEqual(found, expected, (one, two))

    def test_back_and_wrapped(self):
        for one in SMALL + [(r, m) for m in DIVISORS for r in (0, 1 % m, m - 1)]:
            self.assertEqual(rests.rest_back(one), least([-n for n in some_of(one)]))
            for width in (1, 2, 3, 8, 16):
                wrapped = rests.rest_wrapped(one, width)
                self.assertTrue(all(is_held(wrapped, n % 2 ** width) for n in some_of(one)))
                self.assertEqual(wrapped, rests.rest_modulo(one, (2 ** width, 0)))
                if one == () or one[1] % 2 ** width == 0:
                    self.assertEqual(wrapped, () if one == () else (one[0] % 2 ** width, 0))
                else:
                    divisor = math.gcd(one[1], 2 ** width)
                    self.assertEqual(wrapped, (one[0] % divisor, divisor))

    def test_sum_and_product_are_the_least(self):
        self.asked(rests.rest_sum, lambda x, y: x + y, lambda one, two, told: least(told))
        self.asked(rests.rest_product, lambda x, y: x * y, lambda one, two, told: least(told))

    def test_quotient(self):
        def expected(one, two, told):
            if () in (one, two) or two == (0, 0):
                return ()
            if two[1] == 0 and one[1] % two[0] == 0:
                return least(told)
            return (0, 0) if one == (0, 0) else (0, 1)

        self.asked(rests.rest_quotient, lambda x, y: None if y == 0 else x // y, expected)

    def test_modulo(self):
        def expected(one, two, told):
            if () in (one, two) or two == (0, 0):
                return ()
            if two[1] == 0 and one[1] % two[0] == 0:
                return (one[0] % two[0], 0)
            divisor = math.gcd(one[1], two[0], two[1])
            return (one[0] % divisor, divisor)

        self.asked(rests.rest_modulo, lambda x, y: None if y == 0 else x % y, expected)

    def test_great_numbers(self):
        far = 10 ** 60
        self.assertEqual(rests.rest_product((far, 0), (1, 4)), (far % math.gcd(4 * far, GRAIN), math.gcd(4 * far, GRAIN)))
        self.assertEqual(rests.rest_sum((far, 0), (3, 7)), ((far + 3) % 7, 7))
        self.assertEqual(rests.rest_quotient((far, 0), (-7, 0)), (far // -7, 0))
        self.assertEqual(rests.rest_joined((far, 0), (0, 0)), (0, math.gcd(far, GRAIN)))

    def test_guarded(self):
        for guard in GUARDS:
            for one in SMALL:
                for two in SMALL:
                    if () in (one, two) or guard == "!=" and one == two and one[1] == 0:
                        expected = ((), ())
                    elif guard == "==":
                        expected = (rests.rest_met(one, two),) * 2
                    else:
                        expected = (one, two)
                    self.assertEqual(rests.rest_guarded(guard, one, two), expected)


class Ranks(unittest.TestCase):
    def test_rank(self):
        self.assertEqual([rests.rest_rank(rest) for rest in ((), (0, 0), (-7, 0), (10 ** 50, 0))], [12, 11, 11, 11])
        for divisor in DIVISORS:
            many, left = 0, divisor
            for prime in (2, 3, 5, 7):
                while left % prime == 0:
                    left //= prime
                    many += 1
            self.assertEqual(left, 1)
            self.assertEqual(rests.rest_rank((divisor - 1, divisor)), many)
        self.assertEqual(rests.rest_rank((0, GRAIN)), 10)

    def test_joining_makes_it_fall(self):
        for one in SMALL:
            for two in SMALL:
                joined = rests.rest_joined(one, two)
                if not rests.rest_within(two, one):
                    self.assertLess(rests.rest_rank(joined), rests.rest_rank(one))
                else:
                    self.assertEqual(joined, one)
        rest, changes = (), 0
        for number in (0, GRAIN, GRAIN // 2, GRAIN // 4, GRAIN // 8, 1260, 630, 315, 105, 35, 7, 1, 5, 20):
            further = rests.rest_joined(rest, (number, 0))
            changes += further != rest
            rest = further
        self.assertEqual((rest, changes), ((0, 1), 12))


class Settled(unittest.TestCase):
    def test_settled(self):
        ends = (None,) + tuple(range(-7, 8))
        spans = [()] + [(a, b) for a in ends for b in ends if a is None or b is None or a <= b]
        for span in spans:
            for rest in SMALL:
                found = rests.settled(span, rest)
                near = [n for n in range(-40, 41) if stretches.stretch_holds(span, n) and is_held(rest, n)]
                if not near:
                    self.assertEqual(found, ((), ()))
                elif len(near) == 1:
                    self.assertEqual(found, ((near[0], near[0]), (near[0], 0)))
                else:
                    low = None if span[0] is None else near[0]
                    high = None if span[1] is None else near[-1]
                    self.assertEqual(found, ((low, high), rest))
                self.assertEqual(rests.settled(*found), found)
                self.assertEqual([n for n in range(-40, 41) if stretches.stretch_holds(found[0], n) and is_held(found[1], n)], near)

    def test_great_numbers(self):
        far = 10 ** 60
        self.assertEqual(rests.settled((far, None), (1, 7))[0][0] % 7, 1)
        self.assertEqual(rests.settled((far, far), (far, 0)), ((far, far), (far, 0)))
        self.assertEqual(rests.settled((None, far), (far + 1, 0)), ((), ()))


class Refusals(unittest.TestCase):
    stretch = given_wrongs(InvalidStretch, None, 0, (1,), (2, 1), (1, True), (UNASKED, None), *ODD)
    rest = given_wrongs(InvalidRest, None, 0, (1,), (1, 11), (4, 4), (-1, 4), (1, -4), (1, True), (1, 4, 0), (UNASKED, 4), *ODD)
    guard = given_wrongs(InvalidGuard, None, 0, (), ">", *ODD)
    width = given_wrongs(InvalidWidth, None, 0, 17, -1, (), *ODD)
    number = given_wrongs(InvalidNumber, None, (), (1,), *ODD)

    def asked(self, names, right):
        told = {"rest": self.rest, "other": self.rest, "number": self.number, "stretch": self.stretch, "guard": self.guard,
                "width": self.width}
        for name in names.split():
            asked_in_order(self, getattr(rests, name), right, {key: told[key] for key in right})

    def test_refusals(self):
        self.asked("rest_holds", {"rest": (1, 4), "number": 4})
        self.asked("rest_within rest_joined rest_met rest_sum rest_product rest_quotient rest_modulo", {"rest": (1, 4), "other": (2, 0)})
        self.asked("rest_back rest_rank", {"rest": (1, 4)})
        self.asked("rest_wrapped", {"rest": (1, 4), "width": 1})
        self.asked("rest_guarded", {"guard": "==", "rest": (1, 4), "other": (2, 0)})
        self.asked("settled", {"stretch": (None, 4), "rest": (2, 3)})


if __name__ == "__main__":
    unittest.main()
