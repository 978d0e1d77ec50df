package proof

import "tessel/api"

// Rows is a matrix of the machine's numbers.
type Rows [][]complex128

// Made tells the matrix of so many rows and columns that a number for each place makes.
func Made(height, width int, number func(i, j int) complex128) Rows {
	var list Rows
	for i := 0; i < height; i++ {
		row := make([]complex128, 0)
		for j := 0; j < width; j++ {
			row = append(row, number(i, j))
		}
		list = append(list, row)
	}
	return list
}

// Whole tells it as the program has it.
func (a Rows) Whole() api.M { return Matrix(a...) }

// Forms are those in which it may be handed in.
func (a Rows) Forms() []api.M {
	mixed := Longer(a.Whole())
	for i, row := range a {
		for j, x := range row {
			if (i+j)%2 == 1 {
				mixed[i][j] = Whole(x)
			}
		}
	}
	return []api.M{a.Whole(), Longer(a.Whole()), mixed}
}

// Width tells how many columns there are.
func (a Rows) Width() int {
	if len(a) == 0 {
		return 0
	}
	return len(a[0])
}

// Plus adds.
func (a Rows) Plus(b Rows) Rows {
	return Made(len(a), a.Width(), func(i, j int) complex128 { return a[i][j] + b[i][j] })
}

// Scaled multiplies by a number.
func (a Rows) Scaled(x complex128) Rows {
	return Made(len(a), a.Width(), func(i, j int) complex128 { return x * a[i][j] })
}

// Copied tells the same rows in new memory.
func (a Rows) Copied() Rows { return a.Scaled(1) }

// Turned turns rows to columns.
func (a Rows) Turned() Rows {
	return Made(a.Width(), len(a), func(i, j int) complex128 { return a[j][i] })
}

// Conjugated conjugates each number.
func (a Rows) Conjugated() Rows {
	return Made(len(a), a.Width(), func(i, j int) complex128 { return Conj(a[i][j]) })
}

// Times multiplies: it goes through b's rows, and adds to all of a row's places at once.
func (a Rows) Times(b Rows) Rows {
	product := Made(len(a), b.Width(), func(i, j int) complex128 { return 0 })
	for i := range product {
		for k, row := range b {
			for j, y := range row {
				product[i][j] += a[i][k] * y
			}
		}
	}
	return product
}

// Gram tells the rows' products.
func (a Rows) Gram() Rows {
	return Made(len(a), len(a), func(i, j int) complex128 { return Dot(a[i], a[j]) })
}

// Dot tells <u, v>.
func Dot(u, v []complex128) complex128 {
	sum := complex128(0)
	for j, x := range u {
		sum += x * Conj(v[j])
	}
	return sum
}

// Seen tells a matrix of small numbers as the machine has it.
func Seen(m api.M) Rows {
	var list Rows
	for _, row := range m {
		list = append(list, make([]complex128, len(row)))
		for j, x := range row {
			list[len(list)-1][j] = Machine(x)
		}
	}
	return list
}
