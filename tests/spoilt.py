"""Numbers and parties that are not of the form of point 25, for all texts and lines that hold some."""

BAD_NUMBERS = ["", "00", "01", "-1", "+1", "-0", "1000000000000", "0000000000001", "1_0", "1.0", "x", "0x1", " 1", "1 "]
# Python takes these for digits or for an integer, the document does not.
BAD_NUMBERS += ["\u0661", "\u00b2", "\uff11", "1\u0660", "\u00a01", "1\t", "\r1", "1\x00"]

BAD_PARTIES = [
    "",
    "+",
    "0",
    "0:1",
    "0:1-",
    "0:-2",
    ":1-2",
    "0-1:2",
    "0:1-2-3",
    "0:0:1-2",
    "0:1:2",
    "0:1--2",
    "0;1-2",
    "0:1-2+",
    "+0:1-2",
    "0:1-2++0:1-2",
    "0:1-2,0:1-2",
    "0:1-2 +0:1-2",
    "0:1-2+ 0:1-2",
    " 0:1-2",
    "0:1-2 ",
    "0 :1-2",
    "0:1-2\n",
    "\n0:1-2",
    "0:1-2\r",
    # The end is not behind the first night.
    "0:0-0",
    "0:2-2",
    "0:3-2",
    "0:10-9",
    "0:1-2+1:2-2",
    # Five stays.
    "0:0-1+0:0-1+0:0-1+0:0-1+0:0-1",
    # Out of order by kind, first night and end; as numbers, not as words.
    "1:1-2+0:1-2",
    "0:2-3+0:1-3",
    "0:1-3+0:1-2",
    "10:0-1+2:0-1",
    "0:10-11+0:9-11",
    "0:1-2+0:1-3+0:1-2",
]
