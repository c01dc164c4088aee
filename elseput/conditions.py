"""Conditions: what a statement asks of the numbers of a row."""

from elseput.checks import check_name, check_number
from elseput.errors import BadSign, TooLarge, UnknownField
from elseput.reading import Reader
from elseput.words import SIGNS

ALWAYS = ("always",)
NEVER = ("never",)
OPPOSITES = {"<": ">=", ">=": "<", "<=": ">", ">": "<=", "==": "!=", "!=": "=="}
MOST_NESTED = 20


class Condition:
    """Something that holds for the content of a row, or does not."""

    MOST = 8

    def __init__(self, tree):
        self.tree = tree
        self._fields = tuple(sorted({part[1] for part in comparisons(tree)}))

    @staticmethod
    def always():
        """The condition that holds for each content."""
        return Condition(ALWAYS)

    @staticmethod
    def never():
        """The condition that holds for no content."""
        return Condition(NEVER)

    @staticmethod
    def compare(field, sign, number):
        """The comparison of a field with a number."""
        check_name(field)
        if sign not in SIGNS:
            raise BadSign(sign)
        check_number(number)
        return Condition(("compare", field, sign, number))

    @staticmethod
    def read(line):
        """The condition that a line tells."""
        reader = Reader(line)
        parsed = parse_condition(reader)
        reader.take_end()
        return build_condition(parsed)

    @property
    def fields(self):
        """The compared fields, in alphabetical order."""
        return self._fields

    @property
    def size(self):
        """The number of comparisons."""
        return len(comparisons(self.tree))

    def text(self):
        """The text of the condition."""
        return tree_text(self.tree)

    def __call__(self, content):
        for field in self.fields:
            if field not in content:
                raise UnknownField(field)
        return holds(self.tree, content)

    def __and__(self, other):
        return joined("and", self, other)

    def __or__(self, other):
        return joined("or", self, other)

    def __invert__(self):
        return Condition(opposite(self.tree))


def comparisons(tree):
    """The comparisons of a tree, from left to right."""
    if tree[0] == "compare":
        return [tree]
    return [part for branch in tree[1:] for part in comparisons(branch)]


def joined(word, left, right):
    """Two conditions joined by a word."""
    tree = joined_tree(word, left.tree, right.tree)
    if len(comparisons(tree)) > Condition.MOST:
        raise TooLarge(Condition.MOST)
    return Condition(tree)


def joined_tree(word, left, right):
    """Two trees joined by a word; always and never do not stay parts of it."""
    deciding, idle = (NEVER, ALWAYS) if word == "and" else (ALWAYS, NEVER)
    if left == deciding or right == deciding:
        return deciding
    if left == idle:
        return right
    if right == idle:
        return left
    return (word, left, right)


def opposite(tree):
    """The tree that holds where this one does not."""
    if tree == ALWAYS:
        return NEVER
    if tree == NEVER:
        return ALWAYS
    if tree[0] == "compare":
        return ("compare", tree[1], OPPOSITES[tree[2]], tree[3])
    word = "or" if tree[0] == "and" else "and"
    return (word, opposite(tree[1]), opposite(tree[2]))


def holds(tree, content):
    """Whether a tree holds for a content that has all its fields."""
    word = tree[0]
    if word == "compare":
        return sign_holds(content[tree[1]], tree[2], tree[3])
    if word == "and":
        return holds(tree[1], content) and holds(tree[2], content)
    if word == "or":
        return holds(tree[1], content) or holds(tree[2], content)
    return word == "always"


def settled(tree, field, number):
    """What a tree asks of the other fields where this field has this number."""
    word = tree[0]
    if word == "and" or word == "or":
        return joined_tree(word, settled(tree[1], field, number), settled(tree[2], field, number))
    if word == "compare" and tree[1] == field:
        return ALWAYS if sign_holds(number, tree[2], tree[3]) else NEVER
    return tree


def sign_holds(left, sign, right):
    """Whether the sign stands rightly between two numbers."""
    if sign == "<":
        return left < right
    if sign == "<=":
        return left <= right
    if sign == "==":
        return left == right
    if sign == "!=":
        return left != right
    if sign == ">=":
        return left >= right
    return left > right


def tree_text(tree):
    """The text of a tree."""
    word = tree[0]
    if word == "compare":
        return f"{tree[1]} {tree[2]} {tree[3]}"
    if tree == ALWAYS or tree == NEVER:
        return word
    weaker = ("or",) if word == "and" else ()
    left = part_text(tree[1], weaker)
    # Reading joins from left to right, so a right part with the same word needs parentheses, too.
    right = part_text(tree[2], (*weaker, word))
    return f"{left} {word} {right}"


def part_text(tree, enclosed):
    """The text of a part of a tree, in parentheses if its word is one of those enclosed."""
    inner = tree_text(tree)
    return f"({inner})" if tree[0] in enclosed else inner


def parse_condition(reader, depth=0):
    """Take a condition inside of so many `not` and `(`.

    What is taken is a tuple: the tree of always, of never or of a comparison, or `not` and one part,
    or `and` or `or` and the list of their parts.
    """
    parts = [parse_conjunction(reader, depth)]
    while reader.skip("or"):
        parts.append(parse_conjunction(reader, depth))
    return ("or", parts)


def parse_conjunction(reader, depth):
    """Take one or more factors that are separated by `and`."""
    parts = [parse_factor(reader, depth)]
    while reader.skip("and"):
        parts.append(parse_factor(reader, depth))
    return ("and", parts)


def parse_factor(reader, depth):
    """Take one factor."""
    # Too deep, `not` and `(` are no more than tokens that are not a name.
    if depth < MOST_NESTED and reader.skip("not"):
        return ("not", parse_factor(reader, depth + 1))
    if depth < MOST_NESTED and reader.skip("("):
        inner = parse_condition(reader, depth + 1)
        reader.take_one((")",))
        return inner
    if reader.skip("always"):
        return ALWAYS
    if reader.skip("never"):
        return NEVER
    field = reader.take_name()
    sign = reader.take_one(SIGNS)
    return ("compare", field, sign, reader.take_integer())


def build_condition(parsed):
    """The condition of what parse_condition took."""
    word = parsed[0]
    if word == "not":
        return ~build_condition(parsed[1])
    if word == "and" or word == "or":
        return join_all(word, [build_condition(part) for part in parsed[1]])
    return Condition(parsed)


def join_all(word, parts):
    """One or more conditions, joined by a word from left to right."""
    whole = parts[0]
    for part in parts[1:]:
        whole = whole & part if word == "and" else whole | part
    return whole
