package gmat_test

import (
	"fmt"
	"regexp"
	"strings"
	"testing"

	"tessel/api"
	"tessel/gint"
	"tessel/gmat"
	"tessel/proof"
)

func tells(t *testing.T, m api.M, want string) {
	t.Helper()
	got, e := gmat.Text(m)
	proof.Taken(t, "Text of "+show(m), got, e, want)
}

func reads(t *testing.T, s string, want api.M) {
	t.Helper()
	got, e := gmat.Parse(s)
	taken(t, fmt.Sprintf("Parse(%.50q), %d bytes", s, len(s)), got, e, want)
}

func refuses(t *testing.T, s string, want api.Errno) {
	t.Helper()
	got, e := gmat.Parse(s)
	proof.Refused(t, fmt.Sprintf("Parse(%.50q), %d bytes", s, len(s)), got, e, want)
}

func TestText(t *testing.T) { // P8.4
	for _, c := range []struct {
		a    rows
		want string
	}{
		{nil, ""}, {rows{}, ""}, {rows{{0}}, "0"}, {rows{{-1i}}, "-i"}, {rows{{1, 2}, {1i, 0}}, "1 2; i 0"}, {rows{{1}, {2}, {3 - 4i}}, "1; 2; 3-4i"}, {rows{{-1 + 1i, 12, 0, -7i}}, "-1+i 12 0 -7i"}, {rows{{0, 0}, {0, 0}}, "0 0; 0 0"}, {rows{{10, -10}, {5i, 1 + 1i}, {0, 1 << 40}}, "10 -10; 5i 1+i; 0 1099511627776"},
	} {
		for _, m := range c.a.Forms() {
			tells(t, m, c.want)
		}
	}
	for _, nought := range proof.GNoughts() {
		tells(t, api.M{{nought, g(1, 0)}, {g(0, -1), nought}}, "0 1; -i 0")
	}
	for _, a := range samples() {
		want := ""
		for i, row := range a.rows {
			for j, x := range row {
				if j > 0 {
					want += " "
				} else if i > 0 {
					want += "; "
				}
				want += gint.Text(proof.Whole(x))
			}
		}
		for _, m := range a.forms {
			if a.Width() > 0 || len(m) == 0 {
				tells(t, m, want)
			}
		}
	}
}

func TestTextWithoutColumns(t *testing.T) { // P8.4
	for height := 1; height <= api.MaxSize+1; height++ {
		got, e := gmat.Text(make(api.M, height))
		proof.Refused(t, fmt.Sprint("Text of ", height, " rows without columns"), got, e, api.ErrShape)
	}
}

func TestParse(t *testing.T) { // P8.4
	a := rows{{1, 2}, {1i, 0}}
	for s, want := range map[string]rows{
		"": nil, " ": nil, "      ": nil, "0": {{0}}, "-0+0i": {{0}}, "i": {{1i}}, "1 2": {{1, 2}}, "1;2": {{1}, {2}}, "1 ; 2": {{1}, {2}}, " 1 ;2 ": {{1}, {2}},
		"1 2;i 0": a, "1 2; i 0": a, "1 2 ;i 0": a, "  1  2  ;  i  0  ": a, "01 2; 0+1i -0": a, "1 2;i   0": a,
		"3-4i": {{3 - 4i}}, "3 -4i": {{3, -4i}}, "-1 -1": {{-1, -1}}, "-1+i -i 007;1 2 3": {{-1 + 1i, -1i, 7}, {1, 2, 3}}, "1;2;3;4;5": {{1}, {2}, {3}, {4}, {5}},
	} {
		reads(t, s, want.Whole())
	}
}

func TestParseRefused(t *testing.T) { // P8.4
	for _, s := range []string{
		";", ";;", " ; ", "1;", "1; ", ";1", " ;1", "1;;2", "1; ;2", "1 2; i 0;", "1 2;; i 0", "1,2", "1, 2", "1 ,2", "1 2, i 0", "1\t2", "\t", "1\n", "\n", "1\n2", "1 2\r\n", "1\u00a0 2", "\u00a0", "\u2003", "1\v2", "\f", "\x00", "1\x00", "\xff", "1 \xff", "1；2", "1:2",
		"x", "1 x", "x 1", "1; x", "x; 1", "+1", "1 +2", "1 + 2", "1 - 2", "3 - 4i", "3- 4i", "3 -", "1+", "1 1+", "[1 2]", "(1)", "1/2", "1.5", "1e3", "i2", "1 i2", "I", "--1", "1;-", "1;+", "{{1}}", "\"1\"", "1 2 ; i 0 .",
	} {
		refuses(t, s, api.ErrSyntax)
	}
	for _, s := range []string{"1 2; 3", "1; 2 3", "1 2; 3 4; 5", "1 2; 3 4 5", "1; 2 3; 4", "1 2 3; 4 5 6; 7 8", "1;1;1 i", "0; 0 0"} {
		refuses(t, s, api.ErrShape)
	}
	// The syntax of all rows comes ahead of how many numbers they have.
	for _, s := range []string{"1 2; 3; x", "x; 1 2; 3", "1; 2 3; ", "1; 2 3;", ";1 2;3", "1 2; x", "1; x 2", "1; 2 3; +4", "1; 2,3", "1 2;;3"} {
		refuses(t, s, api.ErrSyntax)
	}
}

func TestParseSizes(t *testing.T) { // P8.4: rows and columns at MaxSize and one more, whatever stands behind
	row := func(n int) string { return strings.Repeat("1 ", n) }
	high := func(n int, row string) string { return strings.Repeat(row+";", n-1) + row }
	ones := func(height, width int) api.M {
		return proof.Made(height, width, func(i, j int) complex128 { return 1 }).Whole()
	}
	for _, n := range []int{1, 2, api.MaxSize - 1, api.MaxSize} {
		reads(t, row(n), ones(1, n))
		reads(t, high(n, "1"), ones(n, 1))
		reads(t, high(n, row(api.MaxSize)), ones(n, api.MaxSize))
		reads(t, high(api.MaxSize, row(n)), ones(api.MaxSize, n))
	}
	for _, n := range []int{api.MaxSize + 1, api.MaxSize + 2, 300} {
		for _, s := range []string{row(n), high(n, "1"), high(n, row(2)), high(2, row(n)), high(n, "1") + " 2", row(n) + ";1", "1;" + row(n)} {
			refuses(t, s, api.ErrShape)
			for _, wrong := range []string{s + ";", s + "; x", ";" + s, "+ " + s, s + " ,"} {
				refuses(t, wrong, api.ErrSyntax)
			}
		}
	}
	refuses(t, high(api.MaxText/2, "1"), api.ErrShape)
	refuses(t, row(api.MaxText/2), api.ErrShape)
}

func TestParseLimits(t *testing.T) { // P8.4: texts of MaxText bytes and one more
	blanks := strings.Repeat(" ", api.MaxText)
	noughts := strings.Repeat("0", api.MaxText-8)
	half := strings.Repeat(" ", api.MaxText/2)
	for s, want := range map[string]rows{
		blanks: nil, blanks[1:] + "7": {{7}}, "7" + blanks[1:]: {{7}}, half + "7" + half[1:]: {{7}}, "7;" + blanks[3:] + "8": {{7}, {8}}, "7" + blanks[2:] + "8": {{7, 8}},
		noughts + "00000007": {{7}}, noughts + "0007;-i ": {{7}, {-1i}}, "1 2+" + noughts + "003i": {{1, 2 + 3i}},
	} {
		if len(s) != api.MaxText {
			t.Fatalf("%d bytes, not a text of MaxText", len(s))
		}
		reads(t, s, want.Whole())
		refuses(t, " "+s, api.ErrLimit)
		refuses(t, s+" ", api.ErrLimit)
	}
	for _, s := range []string{blanks + ";", blanks + "x", strings.Repeat(";", api.MaxText+1), strings.Repeat("1 2;3;", api.MaxText), noughts + noughts, strings.Repeat("x", 5*api.MaxText)} {
		refuses(t, s, api.ErrLimit)
	}
	for _, s := range []string{blanks[1:] + ";", blanks[1:] + "x", strings.Repeat(";", api.MaxText), strings.Repeat("x", api.MaxText), noughts + "000000+1", blanks[4:] + "1;2;", "1 2;3" + blanks[6:] + "x"} {
		refuses(t, s, api.ErrSyntax)
	}
	refuses(t, "1 2;3"+blanks[5:], api.ErrShape)
	nines := strings.Repeat("9", api.MaxText/4-1)
	longest := nines + " " + nines + "; " + nines[1:] + " -" + nines[2:]
	tells(t, proof.Must[api.M](t)(gmat.Parse(longest)), longest)
}

// readBy reads a text by the words of P8.4: the rows' texts are parted, of each the words are found, and then all rows are looked at.
func readBy(s string) (api.M, api.Errno) {
	if regexp.MustCompile(`\A *\z`).MatchString(s) {
		return nil, api.OK
	}
	var m api.M
	for _, text := range regexp.MustCompile(`;`).Split(s, -1) {
		words := regexp.MustCompile(`[^ ]+`).FindAllString(text, -1)
		if len(words) == 0 {
			return nil, api.ErrSyntax
		}
		var row []api.G
		for _, word := range words {
			x, e := gint.Parse(word)
			if e != api.OK {
				return nil, api.ErrSyntax
			}
			row = append(row, x)
		}
		m = append(m, row)
	}
	for _, row := range m {
		if len(row) != len(m[0]) {
			return nil, api.ErrShape
		}
	}
	return m, api.OK
}

// TestParseOfAllShort: of all texts of at most 6 of these signs those are taken that the document's words take.
func TestParseOfAllShort(t *testing.T) { // P8.4
	list := []string{""}
	for from := 0; len(list[from]) < 6; from++ {
		for _, sign := range "2i-; " {
			list = append(list, list[from]+string(sign))
		}
	}
	told := map[api.Errno]int{}
	for _, s := range list {
		want, wantError := readBy(s)
		told[wantError]++
		if wantError == api.OK {
			reads(t, s, want)
		} else {
			refuses(t, s, wantError)
		}
	}
	if told[api.OK] < 1000 || told[api.ErrShape] < 100 || told[api.ErrSyntax] < 5000 {
		t.Errorf("of %d texts: %v", len(list), told)
	}
}

func TestParseOfText(t *testing.T) { // P8.4, P8.5
	for _, a := range samples() {
		if a.Width() == 0 && len(a.rows) > 0 {
			continue
		}
		for _, m := range a.forms {
			text, e := gmat.Text(m)
			if e != api.OK {
				t.Errorf("Text of %s: error %d", show(m), e)
			}
			reads(t, text, a.Whole())
		}
	}
	for height := 1; height <= 4; height++ {
		for _, m := range longs(height, 5-height) {
			text, _ := gmat.Text(m)
			reads(t, text, proof.Canon(m))
		}
	}
}
