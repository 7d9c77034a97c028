"""Polynomials with rational coefficients, and sums of them over a name."""

from math import gcd

from loopsheds.systems import is_whole


class Poly:
    """A polynomial: the sum of the terms, each a monomial times an integer, divided by `below`."""

    def __init__(self, terms, below):
        shared = abs(below)
        for many in terms.values():
            shared = gcd(shared, many)
        if below < 0:
            shared = -shared
        kept = sorted([monomial for monomial in terms if terms[monomial] != 0])
        self.terms = {monomial: terms[monomial] // shared for monomial in kept}
        self.below = below // shared

    @classmethod
    def constant(cls, above, below=1):
        """The polynomial that is above divided by below everywhere."""
        return cls({(): above}, below)

    @classmethod
    def of(cls, name, shift=0):
        """The name plus a shift; "0" stands for 0."""
        if name == "0":
            return cls({(): shift}, 1)
        return cls({(): shift, ((name, 1),): 1}, 1)

    def __bool__(self):
        return len(self.terms) > 0

    def __neg__(self):
        return Poly({monomial: -many for monomial, many in self.terms.items()}, self.below)

    def __add__(self, other):
        late = _as_poly(other)
        if late is None:
            return NotImplemented
        return _sum_of(self, late)

    def __radd__(self, other):
        late = _as_poly(other)
        if late is None:
            return NotImplemented
        return _sum_of(late, self)

    def __sub__(self, other):
        late = _as_poly(other)
        if late is None:
            return NotImplemented
        return _sum_of(self, -late)

    def __rsub__(self, other):
        late = _as_poly(other)
        if late is None:
            return NotImplemented
        return _sum_of(late, -self)

    def __mul__(self, other):
        late = _as_poly(other)
        if late is None:
            return NotImplemented
        return _product_of(self, late)

    def __rmul__(self, other):
        late = _as_poly(other)
        if late is None:
            return NotImplemented
        return _product_of(late, self)

    def __call__(self, point):
        above, below = self.fraction(point)
        return above // below

    def fraction(self, point):
        """The value at a point: numerator and positive denominator, in lowest terms."""
        above = 0
        for monomial, many in self.terms.items():
            above = above + many * _worth(monomial, point)
        shared = gcd(above, self.below)
        return above // shared, self.below // shared

    def degree(self, name):
        """The greatest exponent of a name."""
        return max([_exponent(monomial, name) for monomial in self.terms], default=0)

    def coefficient(self, name, many):
        """What a power of the name is multiplied by."""
        found = {}
        for monomial, factor in self.terms.items():
            if _exponent(monomial, name) == many:
                found[_left_out(monomial, name)] = factor
        return Poly(found, self.below)

    def put(self, name, other):
        """The polynomial with another one in the place of the name."""
        found = Poly({}, 1)
        for many in range(self.degree(name), -1, -1):
            found = found * other + self.coefficient(name, many)
        return found


def _as_poly(thing):
    """A polynomial for a polynomial or an integer, None for anything else."""
    if isinstance(thing, Poly):
        return thing
    if is_whole(thing):
        return Poly.constant(thing)
    return None


def _sum_of(one, other):
    found = {monomial: many * other.below for monomial, many in one.terms.items()}
    for monomial, many in other.terms.items():
        found[monomial] = found.get(monomial, 0) + many * one.below
    return Poly(found, one.below * other.below)


def _product_of(one, other):
    found = {}
    for first, many in one.terms.items():
        for second, more in other.terms.items():
            monomial = _both(first, second)
            found[monomial] = found.get(monomial, 0) + many * more
    return Poly(found, one.below * other.below)


def _both(first, second):
    """The product of two monomials."""
    exponents = dict(first)
    for name, many in second:
        exponents[name] = exponents.get(name, 0) + many
    return tuple(sorted(exponents.items()))


def _exponent(monomial, name):
    for base, many in monomial:
        if base == name:
            return many
    return 0


def _left_out(monomial, name):
    return tuple([(base, many) for base, many in monomial if base != name])


def _worth(monomial, point):
    """The value of a monomial at a point."""
    found = 1
    for name, many in monomial:
        for _ in range(many):
            found = found * point[name]
    return found


def power_sum(many, name):
    """The polynomial S with S(x) - S(x - 1) equal to x to this power, and S(-1) equal to 0."""
    found = Poly({}, 1)
    factorial_sum = Poly.of(name, 1)
    for size, ways in enumerate(_partitions(many)):
        found = found + factorial_sum * Poly.constant(ways, size + 1)
        factorial_sum = factorial_sum * Poly.of(name, -size)
    return found


def _partitions(many):
    """For each number of parts: the ways to part so many things."""
    found = [1]
    for _ in range(many):
        wider = [*found, 0]
        found = [size * wider[size] + (wider[size - 1] if size > 0 else 0) for size in range(len(wider))]
    return found


def summed(poly, name, low, high):
    """S of a polynomial with high in the place of the name, minus S with low - 1 in its place."""
    found = Poly({}, 1)
    for many in range(poly.degree(name) + 1):
        factor = poly.coefficient(name, many)
        if factor:
            rising = power_sum(many, name)
            found = found + factor * (rising.put(name, high) - rising.put(name, low - 1))
    return found
