"""All errors of the package, each directly under TongueError."""


class TongueError(ValueError):
    """What this package raises."""


class BadEnding(TongueError):
    """A thing is no ending."""


class BadRules(TongueError):
    """A book of rules is wrong."""
    def __init__(self, index, what):
        super().__init__(f"{what} at {index}")
        self.index = index
        self.what = what


class BadStock(TongueError):
    """A stock is wrong."""
    def __init__(self, what):
        super().__init__(f"wrong: {what}")
        self.what = what


class BadFrame(TongueError):
    """A frame is wrong."""
    def __init__(self, what):
        super().__init__(f"wrong: {what}")
        self.what = what


class BadTongue(TongueError):
    """A tongue is wrong."""
    def __init__(self, index, what):
        super().__init__(f"{what} at {index}")
        self.index = index
        self.what = what


class NoRole(TongueError):
    """The tongue has no such role."""
    def __init__(self, role):
        super().__init__("the tongue has no such role")
        self.role = role


class NoStock(TongueError):
    """The tongue has no such stock."""
    def __init__(self, stock):
        super().__init__("the tongue has no such stock")
        self.stock = stock


class NoFrame(TongueError):
    """The tongue has no such frame."""
    def __init__(self, frame):
        super().__init__("the tongue has no such frame")
        self.frame = frame


class NoRule(TongueError):
    """The rule is not among those that are told."""


class BadNumber(TongueError):
    """A thing is neither "one" nor "many"."""


class BadPattern(TongueError):
    """A row is no pattern of the frame."""
    def __init__(self, index, what):
        super().__init__(f"{what} at {index}")
        self.index = index
        self.what = what


class BadSaying(TongueError):
    """A saying is wrong."""
    def __init__(self, place, what):
        super().__init__(f"{what} at {place}")
        self.place = place
        self.what = what


class BadTurn(TongueError):
    """A row does not hold each role once."""


class BadStems(TongueError):
    """A row is no row of new stems for the nouns."""


class BadText(TongueError):
    """A text cannot be read."""
    def __init__(self, place, what):
        super().__init__(f"{what} at {place}")
        self.place = place
        self.what = what


class BadThings(TongueError):
    """What is heard of one clause is wrong."""
    def __init__(self, index, what):
        super().__init__(f"{what} at {index}")
        self.index = index
        self.what = what


class BadPlaces(TongueError):
    """Places are not those of nouns, ascending."""


class NoReading(TongueError):
    """What is heard has no reading."""


class BadHeard(TongueError):
    """A heard row is wrong."""
    def __init__(self, index, what):
        super().__init__(f"{what} at {index}")
        self.index = index
        self.what = what


class BadNouns(TongueError):
    """A row of nouns for a frame is wrong."""
    def __init__(self, index, what):
        super().__init__(f"{what} at {index}")
        self.index = index
        self.what = what


class BadClause(TongueError):
    """The saying within does not fit."""


class BadExchange(TongueError):
    """An exchange is wrong."""
    def __init__(self, what):
        super().__init__(f"wrong: {what}")
        self.what = what


class BadRing(TongueError):
    """A ring is wrong."""
    def __init__(self, what):
        super().__init__(f"wrong: {what}")
        self.what = what


class BadCounts(TongueError):
    """A row of counts is wrong."""


class NoOrder(TongueError):
    """There is no such order of the frame."""


class BadLot(TongueError):
    """A lot of roles is wrong."""
    def __init__(self, index):
        super().__init__("a lot of roles is wrong")
        self.index = index


class NotClear(TongueError):
    """The tongue is not clear."""


class TooManyRoles(TongueError):
    """The tongue has more roles than are let."""
    def __init__(self, most):
        super().__init__("the tongue has more roles than are let")
        self.most = most


class TooManyRules(TongueError):
    """The tongue has more rules than are let."""
    def __init__(self, most):
        super().__init__("the tongue has more rules than are let")
        self.most = most


class BadTrade(TongueError):
    """A trade of endings for rules is wrong."""
    def __init__(self, what):
        super().__init__(f"wrong: {what}")
        self.what = what


class BadSame(TongueError):
    """A doubt about a number is wrong."""
    def __init__(self, what):
        super().__init__(f"wrong: {what}")
        self.what = what


class BadChoices(TongueError):
    """A row of agreed roles is wrong."""
    def __init__(self, index):
        super().__init__("a row of agreed roles is wrong")
        self.index = index


class BadArticle(TongueError):
    """An article is wrong."""
    def __init__(self, index, what):
        super().__init__(f"{what} at {index}")
        self.index = index
        self.what = what


class BadMany(TongueError):
    """A count of swallowed endings is wrong."""


class BadSwallowed(TongueError):
    """A swallowed exchange is wrong."""
    def __init__(self, what):
        super().__init__(f"wrong: {what}")
        self.what = what


class FreeClauses(TongueError):
    """Verbs are free and some frame has a clause role."""


class BadBlocks(TongueError):
    """A row cannot be parted into blocks."""
    def __init__(self, place):
        super().__init__("a row cannot be parted into blocks")
        self.place = place


class BadTalk(TongueError):
    """A talk is wrong."""
    def __init__(self, index):
        super().__init__("a talk is wrong")
        self.index = index


class NoClause(TongueError):
    """The saying has no clause."""


class BadNest(TongueError):
    """A row of frames cannot be nested."""
    def __init__(self, index, what):
        super().__init__(f"{what} at {index}")
        self.index = index
        self.what = what


class BadDepth(TongueError):
    """A depth is wrong."""


class FreeVerbs(TongueError):
    """The verbs of the tongue are free."""


class NotFree(TongueError):
    """The verbs of the tongue are not free."""


class BadHabit(TongueError):
    """A row is no habit."""


class Nothing(TongueError):
    """There is nothing to take."""


class BadPair(TongueError):
    """Two tongues are no pair."""


class BadPool(TongueError):
    """A pool of entries is wrong."""
    def __init__(self, index):
        super().__init__("a pool of entries is wrong")
        self.index = index


class BadHearers(TongueError):
    """A row of hearers is wrong."""
    def __init__(self, index):
        super().__init__("a row of hearers is wrong")
        self.index = index


class BadWear(TongueError):
    """A wear is wrong."""
    def __init__(self, index, what):
        super().__init__(f"{what} at {index}")
        self.index = index
        self.what = what


class BadChange(TongueError):
    """A change is wrong."""
    def __init__(self, index, what):
        super().__init__(f"{what} at {index}")
        self.index = index
        self.what = what


class BadAge(TongueError):
    """There is no such age."""


class BadRemark(TongueError):
    """A row of remarks is wrong."""
    def __init__(self, index):
        super().__init__("a row of remarks is wrong")
        self.index = index


class BadHelp(TongueError):
    """A pool of helps is wrong."""
    def __init__(self, index, what):
        super().__init__(f"{what} at {index}")
        self.index = index
        self.what = what


class BadPick(TongueError):
    """A row is no pick of the pool."""


class BadRow(TongueError):
    """A row does not hold each slot once."""


class BadLesson(TongueError):
    """A lesson is wrong."""
    def __init__(self, index, what):
        super().__init__(f"{what} at {index}")
        self.index = index
        self.what = what


class LessonClash(TongueError):
    """Two lessons tell unlike endings for one cell."""
    def __init__(self, first, second):
        super().__init__("two lessons tell unlike endings for one cell")
        self.first = first
        self.second = second


class NoBook(TongueError):
    """No closed book fits the lessons."""
    def __init__(self, index):
        super().__init__("no closed book fits the lessons")
        self.index = index


class BadWish(TongueError):
    """A row of wishes is wrong."""
    def __init__(self, index):
        super().__init__("a row of wishes is wrong")
        self.index = index


class NoChange(TongueError):
    """No standing change has this number."""
    def __init__(self, number):
        super().__init__("no standing change has this number")
        self.number = number
