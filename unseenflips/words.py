"""What is a word, and what is a bit."""


def is_word(value, least=0):
    """Whether any value at all is a word of at least so many bits."""
    return isinstance(value, str) and len(value) >= least and all([letter in "01" for letter in value])


def is_bit(value):
    """Whether any value at all is a word of one bit."""
    return is_word(value, 1) and len(value) == 1


def other_bits(word):
    """The word with 0 and 1 exchanged."""
    return "".join(["1" if bit == "0" else "0" for bit in word])


def last_bits(word, many):
    """The last so many bits of a word, or all of them if it has fewer."""
    return word[max(0, len(word) - many):]


def tail(line, words):
    """The longest end of a line with which one of these words begins."""
    for at in range(len(line)):
        end = line[at:]
        if any([word.startswith(end) for word in words]):
            return end
    return ""


def words_of(size):
    """All words of so many bits, ascending."""
    found = [""]
    for _ in range(size):
        found = [word + bit for word in found for bit in "01"]
    return found


def words_up_to(longest):
    """All words of 1 to so many bits, the first ones first."""
    return [word for size in range(1, longest + 1) for word in words_of(size)]
