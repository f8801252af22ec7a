"""The refusals: each has a class of its own, all of them stand straight under RealError."""


class RealError(ValueError):
    pass


class Lacks(RealError):
    def __init__(self, name):
        self.name = name


class Stranger(RealError):
    def __init__(self, name):
        self.name = name


class Twice(RealError):
    def __init__(self, name):
        self.name = name


class Unbound(RealError):
    def __init__(self, name):
        self.name = name


class Beyond(RealError):
    def __init__(self, name, form):
        self.name = name
        self.form = form


class NoText(RealError):
    pass


class NoPaper(RealError):
    pass


class Clash(RealError):
    pass


class NoFact(RealError):
    pass
