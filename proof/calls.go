package proof

import "tessel/api"

// T is what a test tells its faults to.
type T interface {
	Helper()
	Errorf(format string, args ...any)
}

// Call is a call of a package, told as what it makes of its arguments: all that it answers.
type Call struct {
	name string
	play func(args []any) []any
	// twins is how many arguments, from the first one on, are of one kind.
	twins int
}

// All makes a list of what a call answers.
func All(answers ...any) []any { return answers }

// One is a call of the first argument.
func One[A any](name string, play func(a A) []any) Call {
	return Call{name, func(args []any) []any { return play(args[0].(A)) }, 1}
}

// Two is a call of the first two arguments.
func Two[A, B any](name string, play func(a A, b B) []any) Call {
	var a A
	twins := 1
	if _, ok := any(a).(B); ok {
		twins = 2
	}
	return Call{name, func(args []any) []any { return play(args[0].(A), args[1].(B)) }, twins}
}

// Many is a call of the first n arguments, which are of one kind.
func Many[A any](name string, n int, play func(args []A) []any) Call {
	return Call{name, func(args []any) []any {
		var all []A
		for _, v := range args[:n] {
			all = append(all, v.(A))
		}
		return play(all)
	}, n}
}

// Pairs lists the samples in all pairs, each as the arguments of a call.
func Pairs[A any](samples []A) [][]any { return Lists(samples, 2) }

// Lists lists all lists of n of the samples, each as the arguments of a call.
func Lists[A any](samples []A, n int) [][]any {
	if n == 0 {
		return [][]any{nil}
	}
	var all [][]any
	for _, ahead := range Lists(samples, n-1) {
		for _, v := range samples {
			all = append(all, append(ahead[:n-1:n-1], v))
		}
	}
	return all
}

// Both lists all pairs of one of each list, each as the arguments of a call.
func Both[A, B any](first []A, second []B) [][]any {
	var all [][]any
	for _, a := range first {
		for _, b := range second {
			all = append(all, All(a, b))
		}
	}
	return all
}

// Check plays all calls with all arguments, and tells where one doesn't keep what the document asks of all calls.
func Check(t T, calls []Call, samples [][]any) {
	t.Helper()
	for _, c := range calls {
		c.look(t, samples, c.memory, c.sharing, c.forms, c.errors)
	}
}

// CheckLong is Check for very long numbers: it looks whether each call ends, and counts them by their values.
func CheckLong(t T, calls []Call, samples [][]any) {
	t.Helper()
	for _, c := range calls {
		c.look(t, samples, c.forms)
	}
}

// CheckRefused tells where one of the calls doesn't end with an error, or answers something beside it.
func CheckRefused(t T, calls []Call, args []any, want api.Errno) {
	t.Helper()
	for _, c := range calls {
		c.look(t, [][]any{args}, c.errors, func(args []any) string {
			if answers := c.play(args); answers[len(answers)-1] != any(want) {
				return "is " + Show(answers) + ", and not " + Show(want)
			}
			return ""
		})
	}
}

func (c Call) look(t T, samples [][]any, looks ...func(args []any) string) {
	t.Helper()
	for _, args := range samples {
		for _, look := range looks {
			if fault := look(args); fault != "" {
				t.Errorf("%s of %s %s", c.name, begin(Show(args)), begin(fault))
			}
		}
	}
}

// begin cuts a text that is too long to be read.
func begin(text string) string {
	const most = 1000
	if len(text) > most {
		return text[:most] + " .."
	}
	return text
}

// memory looks at rule R4: what is handed in is neither changed nor kept, what is answered is new memory, and no two lists of it share any.
func (c Call) memory(args []any) string {
	handed := Fresh(args)
	before := Show(rooms(handed))
	answers := c.play(handed)
	told := Show(answers)
	if Show(rooms(handed)) != before {
		return "changes what it is handed"
	}
	seen := map[any]bool{}
	for _, place := range places(handed) {
		seen[place] = true
	}
	if meets(answers, seen) {
		return "answers memory that another list has"
	}
	scribble(handed)
	scribble(answers)
	if again := Show(c.play(Fresh(args))); again != told {
		return "is " + told + ", and at the second time " + again
	}
	return ""
}

// meets tells whether one of the value's lists has memory of those seen, or of another of its lists.
func meets(v any, seen map[any]bool) bool {
	for _, place := range places(v) {
		if seen[place] {
			return true
		}
		seen[place] = true
	}
	return false
}

// sharing looks at rule R4 where lists that are handed in share memory: those of one argument, or those of two.
func (c Call) sharing(args []any) string {
	foldedArgs := Fresh(args)
	for i, v := range foldedArgs {
		foldedArgs[i] = folded(v)
	}
	if fault := c.asApart(foldedArgs); fault != "" {
		return fault
	}
	for j := range c.twins {
		for i := range j {
			for _, form := range [][]any{foldedArgs, Fresh(args)} {
				handed := append([]any{}, form...)
				handed[j] = handed[i]
				if fault := c.asApart(handed); fault != "" {
					return fault
				}
			}
		}
	}
	return ""
}

// asApart looks whether a call answers the same as where no list shares memory with another one, and again in new memory.
func (c Call) asApart(handed []any) string {
	before := Show(rooms(handed))
	answers := c.play(handed)
	if want := Show(c.play(Fresh(handed))); Show(answers) != want {
		return "is " + Show(answers) + " where memory is shared, and else " + want
	}
	seen := map[any]bool{}
	for _, place := range places(handed) {
		seen[place] = true
	}
	if Show(rooms(handed)) != before || meets(answers, seen) {
		return "changes or answers memory that is shared"
	}
	return ""
}

// forms looks whether numbers count by their values, and whether those that are answered are canonical.
func (c Call) forms(args []any) string {
	told := Show(c.play(args))
	for _, form := range [][]any{Longer(args), Canon(args)} {
		if answers := Show(c.play(form)); answers != told {
			return "is " + told + ", and of another form " + answers
		}
	}
	if answers := c.play(args); !Alike(answers, Canon(answers)) {
		return "is not canonical: " + told
	}
	return ""
}

// errors looks at rule R2: beside an error all is zero.
func (c Call) errors(args []any) string {
	answers := c.play(args)
	if !hasError(answers) {
		return ""
	}
	for _, v := range answers {
		if !isZero(v) && !hasError([]any{v}) {
			return "is " + Show(v) + " beside an error"
		}
	}
	return ""
}

func hasError(answers []any) bool {
	for _, v := range answers {
		if e, ok := v.(api.Errno); ok && e != api.OK {
			return true
		}
	}
	return false
}
