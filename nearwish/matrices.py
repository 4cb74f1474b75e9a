"""Square matrices of integers modulo a number, as lists of their rows."""


def unit_matrix(size):
    """The matrix that changes nothing in a product."""
    return [[1 if k == j else 0 for j in range(size)] for k in range(size)]


def matrix_product(one, other, modulus):
    """The product of the two matrices."""
    columns = [list(line) for line in zip(*other)]
    return [[sum([x * y for x, y in zip(row, column)]) % modulus for column in columns] for row in one]


def matrix_power(matrix, times, modulus):
    """The product of the matrix with itself, so many times, by squaring."""
    power = unit_matrix(len(matrix))
    square = matrix
    rest = times
    while rest > 0:
        if rest % 2 == 1:
            power = matrix_product(power, square, modulus)
        rest = rest // 2
        # The last square would never be used.
        if rest > 0:
            square = matrix_product(square, square, modulus)
    return power


def trace(matrix, modulus):
    """The sum of what stands from the upper left to the lower right."""
    return sum([matrix[k][k] for k in range(len(matrix))]) % modulus
