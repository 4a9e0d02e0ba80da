"""The errors of the program; each keeps what it bears in attributes."""


class ShowError(ValueError):
    """What all errors of the program are."""


class BadSize(ShowError):
    def __init__(self, size):
        self.size = size


class BadWord(ShowError):
    def __init__(self, word):
        self.word = word


class BadWorld(ShowError):
    def __init__(self, world):
        self.world = world


class BadDeed(ShowError):
    def __init__(self, deed):
        self.deed = deed


class BadGesture(ShowError):
    def __init__(self, number):
        self.number = number


class BadSleight(ShowError):
    def __init__(self, number):
        self.number = number


class BadCue(ShowError):
    def __init__(self, number):
        self.number = number


class BadAnswer(ShowError):
    def __init__(self, number):
        self.number = number


class BadText(ShowError):
    def __init__(self, at):
        self.at = at


class BadLine(ShowError):
    def __init__(self, line, word):
        self.line = line
        self.word = word


class BadStatement(ShowError):
    def __init__(self, number):
        self.number = number


class BadPattern(ShowError):
    def __init__(self, pattern):
        self.pattern = pattern


class BadWish(ShowError):
    def __init__(self, wish):
        self.wish = wish


class BadHabit(ShowError):
    def __init__(self, number):
        self.number = number


class BadEye(ShowError):
    def __init__(self, eye):
        self.eye = eye


class BadEyes(ShowError):
    def __init__(self, eyes):
        self.eyes = eyes


class BadPatter(ShowError):
    def __init__(self, number):
        self.number = number


class BadMany(ShowError):
    def __init__(self, many):
        self.many = many


class BadHeld(ShowError):
    def __init__(self, number):
        self.number = number


class BadKnown(ShowError):
    def __init__(self, number):
        self.number = number


class BadMost(ShowError):
    def __init__(self, most):
        self.most = most


class BadSeen(ShowError):
    def __init__(self, number):
        self.number = number


class BadLength(ShowError):
    def __init__(self, length):
        self.length = length


class BadTimes(ShowError):
    def __init__(self, times):
        self.times = times


class BadExtra(ShowError):
    def __init__(self, number):
        self.number = number


class BadFail(ShowError):
    def __init__(self, number):
        self.number = number


class BadSlips(ShowError):
    def __init__(self, slips):
        self.slips = slips


class BadChallenge(ShowError):
    def __init__(self, number):
        self.number = number


class BadPlaces(ShowError):
    def __init__(self, places):
        self.places = places


class BadKinds(ShowError):
    def __init__(self, kinds):
        self.kinds = kinds


class BadPiece(ShowError):
    def __init__(self, number):
        self.number = number


class BadPocket(ShowError):
    def __init__(self, number):
        self.number = number


class BadOrder(ShowError):
    def __init__(self, order):
        self.order = order


class BadOut(ShowError):
    def __init__(self, number):
        self.number = number


class BadQuestion(ShowError):
    def __init__(self, number):
        self.number = number


class BadPart(ShowError):
    def __init__(self, part):
        self.part = part


class BadName(ShowError):
    def __init__(self, name):
        self.name = name


class NoGesture(ShowError):
    def __init__(self, name):
        self.name = name


class NoManner(ShowError):
    def __init__(self, manner):
        self.manner = manner


class NoSleight(ShowError):
    def __init__(self, name):
        self.name = name


class NoCue(ShowError):
    def __init__(self, number):
        self.number = number


class NoEvent(ShowError):
    def __init__(self, number):
        self.number = number


class NoStanding(ShowError):
    def __init__(self, standing):
        self.standing = standing


class NoFilling(ShowError):
    def __init__(self, filling):
        self.filling = filling


class NoOption(ShowError):
    def __init__(self, option):
        self.option = option


class NoPosition(ShowError):
    def __init__(self, position):
        self.position = position


class NoSituation(ShowError):
    def __init__(self, situation):
        self.situation = situation


class NoState(ShowError):
    def __init__(self, state):
        self.state = state


class NoStage(ShowError):
    def __init__(self, stage):
        self.stage = stage


class NoPiece(ShowError):
    def __init__(self, name):
        self.name = name


class NoDeed(ShowError):
    """Nothing is left to be undone, or redone."""


class Unreached(ShowError):
    def __init__(self, world):
        self.world = world


class Lost(ShowError):
    def __init__(self, world):
        self.world = world


class TooMany(ShowError):
    def __init__(self, word):
        self.word = word


class TooLong(ShowError):
    def __init__(self, number):
        self.number = number


class Twice(ShowError):
    def __init__(self, name):
        self.name = name


class Unknown(ShowError):
    def __init__(self, name):
        self.name = name


class Unlike(ShowError):
    def __init__(self, word):
        self.word = word


class InUse(ShowError):
    def __init__(self, name):
        self.name = name


class Torn(ShowError):
    def __init__(self, line):
        self.line = line
