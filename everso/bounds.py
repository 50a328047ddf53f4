"""The bounds by which a program is run where none are named."""

MOST = 2000
DEEP = 10
KEEP = 200
