"""The refusals."""


class MeetError(ValueError):
    pass


class NoText(MeetError):
    pass


class Ring(MeetError):
    pass


class NoRow(MeetError):
    pass
