"""Fractions as pairs of whole numbers, the upper and the lower one."""


def greatest_divisor(m, n):
    # Python's % follows the sign of its right side: without signs the rest is never below 0.
    m = abs(m)
    n = abs(n)
    while n > 0:
        rest = m % n
        m = n
        n = rest
    return m


# The lower number is above 0, so the divisor is too, and the sign stays with the upper one.
def lowest_terms(upper, lower):
    divisor = greatest_divisor(upper, lower)
    return (upper // divisor, lower // divisor)


def ratio_text(ratio):
    upper = ratio[0]
    lower = ratio[1]
    return f"{upper}/{lower}"
