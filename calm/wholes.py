"""Divisors of whole numbers."""


# The greatest number that divides them all, 0 where all are 0.
def divisor_of(numbers):
    divisor = 0
    for number in numbers:
        other = abs(number)
        while other != 0:
            rest = divisor % other
            divisor = other
            other = rest
        if divisor == 1:
            return 1
    return divisor
