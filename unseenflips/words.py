"""What is a word, and what is a bit."""


def is_word(value, least=0):
    """Whether any value at all is a word of at least so many bits."""
    return isinstance(value, str) and len(value) >= least and all([letter in "01" for letter in value])


def is_bit(value):
    """Whether any value at all is a word of one bit."""
    return is_word(value, 1) and len(value) == 1


def other_bits(word):
    """The word with 0 and 1 exchanged."""
    return "".join(["1" if bit == "0" else "0" for bit in word])
