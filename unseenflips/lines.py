"""Lines: how messages are sent, and how lines are read."""


def filled(rule, line):
    """The line followed by all bits that are put in behind it."""
    due = rule.put(line)
    while due is not None:
        line += due
        due = rule.put(line)
    return line


def body(rule, message):
    """The line for a message: its bits, with all bits that are put in."""
    line = ""
    for bit in message:
        line = filled(rule, line + bit)
    return line


def taken_out(rule, line):
    """The message whose body is this line, or None if there is none."""
    ahead = ""
    message = ""
    for bit in line:
        due = rule.put(ahead)
        if due is None:
            message += bit
        elif due != bit:
            return None
        ahead += bit
    if rule.put(ahead) is not None:
        return None
    return message


def is_kept(rule, line):
    """Whether a line, followed by the flag, has its first flag at the end."""
    return (line + rule.flag).find(rule.flag) == len(line)


def can_end(rule, line):
    """Whether a line can be a whole body, as far as its end tells, and the flag behind it is the first one."""
    return rule.put(line) is None and is_kept(rule, line)


def send(rule, check, data):
    """The line for data: the body with the check bits, followed by the flag."""
    return body(rule, data + check.bits_for(data)) + rule.flag


def read_part(rule, check, part):
    """The pair (reason, data) for what stands ahead of a flag."""
    message = taken_out(rule, part)
    if message is None:
        return "put", None
    if not check.is_good(message):
        return "check", None
    return "good", message[:len(message) - check.degree]


def receive(rule, check, raw):
    """The pair (reason, data) for what follows an opening flag."""
    end = raw.find(rule.flag)
    if end < 0:
        return "open", None
    return read_part(rule, check, raw[:end])


def frames(rule, check, raw):
    """The pairs (reason, data) for all parts that are not empty and end with a flag."""
    # What follows the last flag does not end with one, so it is no frame yet.
    parts = raw.split(rule.flag)[:-1]
    return tuple([read_part(rule, check, part) for part in parts if part != ""])
