package desk_test

import (
	"strings"
	"testing"

	"weir/api"
)

// 20.1: a part behind the last newline that is empty is no line; all others are.
func TestLines(t *testing.T) {
	for _, c := range []struct {
		text  string
		lines int
	}{
		{"", 0}, {"\n", 1}, {"\n\n", 2}, {" ", 1}, {"\t \t", 1}, {"#", 1}, {"#\n", 1}, {"# a\n# b", 2}, {"# a\n\n# b\n", 3}, {"\n\n\n\n#", 5},
	} {
		refuses(t, c.text, api.ErrLacks, c.lines, 0)
	}
	reads(t, strings.TrimSuffix(whole, "\n"), wholeConfig())
	reads(t, whole+"\n", wholeConfig())
	reads(t, "\n"+strings.ReplaceAll(whole, "\n", "\n\n"), wholeConfig())
	refuses(t, whole+"\n \n\nx\n", api.ErrDeskLine, 17, 0)
}

// 20.1: blanks and tabs part words, as many as there are, and nothing else does.
func TestWords(t *testing.T) {
	reads(t, "\t "+strings.ReplaceAll(strings.ReplaceAll(whole, " ", " \t "), "\n", "\t\t\n \t"), wholeConfig())
	for _, c := range []struct {
		line  string
		place int
	}{
		{"class\vquantum 64", 0}, {"class\u00a0quantum 64", 0}, {"class\u2003quantum", 0}, {" reasm\r", 1}, {"\x00", 0}, {"\xff \xff", 0}, {"\t\xe9port", 1},
		{"class quantum 64\r items 1", 14}, {"class quantum 64 \r items 1", 17}, {"class quantum \xff", 14},
		{"class", 5}, {"class ", 6}, {"class \t\t", 8},
		{"Class quantum", 0}, {"clas", 0}, {"classs", 0},
	} {
		refuses(t, c.line, api.ErrDeskLine, 0, c.place)
		refuses(t, "\n"+c.line+"\n\nx", api.ErrDeskLine, 1, c.place)
	}
}

// 20.1: a word that begins with # ends the line; one that has it elsewhere does not.
func TestRemarks(t *testing.T) {
	reads(t, strings.ReplaceAll(whole, "\n", " # no: \xff # \xe9\n")+"#\n\t#port\n ##", wholeConfig())
	reads(t, strings.ReplaceAll(whole, "\n", "\t#\n"), wholeConfig())
	for _, c := range []struct {
		line  string
		place int
	}{
		{"class # é", 10}, {"class #", 7}, {"class # quantum 64 items 1", 26}, {"class quantum #64 items", 23},
		{"class# quantum", 0}, {"x# y", 0}, {"class quantum 64#", 14}, {"class quantum 64 items# 1", 17},
		{"rule # é permit any", 20}, {"rule#", 0},
	} {
		refuses(t, c.line, api.ErrDeskLine, 0, c.place)
	}
	d := made(t, whole)
	does(t, d, "#", "", "  # counts", "", "counts # counts", "in 0 out 0 used 0 made 0", "refill 0 # 5", "error 201", "refill 0 #", "error 201", "refill 0 2 #3", "2", "refill 0 2# 3", "error 201")
}

// 20.1: a number has digits alone, none too many ahead, and a greatest value.
func TestNumbers(t *testing.T) {
	d := made(t, whole)
	for _, n := range []string{"0", "1", "9", "10", "90", "100000", "268435455", "268435456"} {
		does(t, d, "poll "+n, "0")
	}
	for _, n := range []string{
		"00", "01", "007", "+1", "-1", "-0", "+0", "1.0", "1e3", "0x1", "1_0", "1,", "a", "-", "٣", "１", "1\r", "1\n", "\xff", "268435457", "268435460", "300000000", "1000000000",
		"18446744073709551616", "18446744073709551617", "9223372036854775808", strings.Repeat("1", 4000), strings.Repeat("0", 4000),
	} {
		does(t, d, "poll "+n, "error 201")
		line := "class quantum " + n + " items 1"
		refuses(t, strings.ReplaceAll(line, "\n", "\v"), api.ErrDeskLine, 0, 14)
	}
}
