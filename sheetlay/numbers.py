"""Numbers: tuples (n, d) in lowest form, d from 1 on."""


def divisor(n, m):
    while m != 0:
        rest = n % m
        n = m
        m = rest
    return abs(n)


def number(n, d=1):
    shared = divisor(n, d)
    # Divided by a shared part of d's own sign, d comes out above 0.
    if d < 0:
        shared = -shared
    return (n // shared, d // shared)


def plus(a, b):
    return number(a[0] * b[1] + b[0] * a[1], a[1] * b[1])


def minus(a, b):
    return number(a[0] * b[1] - b[0] * a[1], a[1] * b[1])


def times(a, b):
    return number(a[0] * b[0], a[1] * b[1])


def less(a, b):
    return a[0] * b[1] < b[0] * a[1]


def figures(n):
    # Python refuses to write some thousands of figures at once, and sums
    # of what was told may have more; so they are written in runs of 60.
    run = 10 ** 60
    parts = []
    while n >= run:
        parts.append(str(n % run).zfill(60))
        n = n // run
    parts.append(str(n))
    return "".join(reversed(parts))


def number_text(a):
    text = figures(abs(a[0]))
    if a[0] < 0:
        text = "-" + text
    if a[1] != 1:
        text = text + "/" + figures(a[1])
    return text
