"""Choices: how many ways there are to choose, told for every whole number."""


def chosen(n, k):
    """n * (n - 1) * .. * (n - k + 1), divided by 1 * 2 * .. * k; 1 where k is 0."""
    told = 1
    for taken in range(k):
        # No rest is lost on the way: what stands here is always the choices of taken + 1 out of n.
        told = told * (n - taken) // (taken + 1)
    return told
