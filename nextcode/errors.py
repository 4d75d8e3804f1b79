"""The errors of the package. Each one keeps what it was made from, whatever kind of value that is."""


class TreeError(ValueError):
    """The base of all errors of the package."""


class BadKind(TreeError):
    """There is no such kind of deed, or it is not the kind that is wanted."""

    def __init__(self, kind):
        self.kind = kind


class BadUps(TreeError):
    """Neither True nor False, or False for a kind that needs up links."""

    def __init__(self, ups):
        self.ups = ups


class BadLine(TreeError):
    """The line has no form of its place, or lacks its end."""

    def __init__(self, line):
        self.line = line


class Refused(TreeError):
    """The line breaks a limit."""

    def __init__(self, line):
        self.line = line


class BadTree(TreeError):
    """The value is no told tree, or no list of items for one."""

    def __init__(self, tree):
        self.tree = tree


class BadHanded(TreeError):
    """The value can not be handed to a deed of this kind."""

    def __init__(self, handed):
        self.handed = handed


class BadPromise(TreeError):
    """There is no such promise."""

    def __init__(self, promise):
        self.promise = promise


class NoLine(TreeError):
    """The value is no number of a line."""

    def __init__(self, line):
        self.line = line


class BadSize(TreeError):
    """The value is no height."""

    def __init__(self, n):
        self.n = n


class OtherUps(TreeError):
    """Not all of the codes are for trees with ups."""

    def __init__(self):
        pass


class BadName(TreeError):
    """The value is no name, or nothing that fits stands under it."""

    def __init__(self, name):
        self.name = name


class NoDeed(TreeError):
    """The store has no such deed of this name."""

    def __init__(self, name):
        self.name = name


class NoWalker(TreeError):
    """The store has no walker of this name."""

    def __init__(self, name):
        self.name = name


class NothingToUndo(TreeError):
    """There is no deed that can be taken back."""

    def __init__(self):
        pass


class TooMany(TreeError):
    """There are more of them than there may be."""

    def __init__(self, what, many, most):
        self.what = what
        self.many = many
        self.most = most
