"""Letters of a prime: inverses, powers, digits and roots."""

from fetchunseen.base.checks import check_between, is_between, is_whole
from fetchunseen.errors import InvalidNumber, InvalidRow, Refused

MOST_PRIME = 9973
MOST_TIMES = 1000000000
MOST_LETTERS = 100


def least_divisor(number):
    """The least divisor above 1 of an integer from 2 on."""
    divisor = 2
    while divisor * divisor <= number:
        if number % divisor == 0:
            return divisor
        divisor += 1
    return number


def is_prime(value):
    """Whether the value is a prime from 2 to 9973."""
    return is_between(value, 2, MOST_PRIME) and least_divisor(value) == value


def check_prime(prime):
    """Refuse what is no prime."""
    if not is_prime(prime):
        raise InvalidNumber(prime)


def check_letter(prime, letter):
    """Refuse what is no letter of the prime."""
    check_between(letter, 0, prime - 1)


def are_letters(prime, value, least, most):
    """Whether the value is a tuple of letters, of a length within the bounds."""
    if not isinstance(value, tuple) or not least <= len(value) <= most:
        return False
    return all([is_between(letter, 0, prime - 1) for letter in value])


def next_prime(number):
    """The least prime that is not below the number."""
    check_between(number, 0, MOST_PRIME)
    found = number
    while not is_prime(found):
        found += 1
    return found


def power_of(prime, letter, times):
    """The power of a letter, without checks."""
    made = 1
    square = letter
    left = times
    while left > 0:
        if left % 2 == 1:
            made = made * square % prime
        square = square * square % prime
        left = left // 2
    return made


def powers_to(number, most):
    """The powers 0 to most of an integer, as integers."""
    powers = [1]
    for _ in range(most):
        powers.append(powers[-1] * number)
    return powers


def inverse_of(prime, letter):
    """The inverse of a letter other than 0, without checks."""
    # The power prime - 1 is 1, so the one ahead of it is the inverse.
    return power_of(prime, letter, prime - 2)


def inverse(prime, letter):
    """The letter whose product with this one is 1."""
    check_prime(prime)
    check_letter(prime, letter)
    if letter == 0:
        raise Refused(("zero",))
    return inverse_of(prime, letter)


def power(prime, letter, times):
    """The letter, multiplied so many times; 1 for no times."""
    check_prime(prime)
    check_letter(prime, letter)
    check_between(times, 0, MOST_TIMES)
    return power_of(prime, letter, times)


def letters_at(prime, many, number):
    """The tuple of so many letters that stands for the number."""
    check_prime(prime)
    check_between(many, 0, MOST_LETTERS)
    if not is_whole(number) or number < 0:
        raise InvalidNumber(number)
    letters = []
    left = number
    for _ in range(many):
        letters.append(left % prime)
        left = left // prime
    if left > 0:
        raise InvalidNumber(number)
    return tuple(letters[::-1])


def number_at(prime, letters):
    """The number for which the letters stand."""
    check_prime(prime)
    if not are_letters(prime, letters, 0, MOST_LETTERS):
        raise InvalidRow("a tuple of 0 to 100 letters is wanted")
    number = 0
    for letter in letters:
        number = number * prime + letter
    return number


def prime_divisors(number):
    """The primes that divide an integer from 1 on, ascending."""
    found = []
    left = number
    while left > 1:
        divisor = least_divisor(left)
        found.append(divisor)
        while left % divisor == 0:
            left = left // divisor
    return found


def is_root(prime, letter):
    """Whether the powers of a letter other than 0 are all letters but 0."""
    # Powers that come round too early do so after (prime - 1) / q times, q a prime.
    early = [(prime - 1) // divisor for divisor in prime_divisors(prime - 1)]
    return all([power_of(prime, letter, times) != 1 for times in early])


def root(prime):
    """The least letter whose powers are all letters but 0."""
    check_prime(prime)
    letter = 1
    while not is_root(prime, letter):
        letter += 1
    return letter


def exponent_of(prime, base, letter):
    """The least times for which the power of the base is the letter, or None."""
    check_prime(prime)
    check_letter(prime, base)
    check_letter(prime, letter)
    made = 1
    for times in range(prime):
        if made == letter:
            return times
        made = made * base % prime
    return None
