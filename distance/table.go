package distance

import "bitext/api"

// cell is a place of the table of two lists, of which the column j of the row i
// stands for the scripts from a[i:] to b[j:]. All prices of the table are without
// the surplus, which is the same for every script.
type cell struct {
	price int // the least price of these scripts
	cross int // the column at which the script of Align enters the middle row
}

// firstCell returns the first cell of the table. The rows are filled from the last
// one to the first one, so that a cell knows what follows each of its edits;
// only two of them are kept.
func firstCell(a, b []part, middle int) cell {
	row, below := make([]cell, len(b)+1), make([]cell, len(b)+1)
	for j := len(b) - 1; j >= 0; j-- {
		row[j].price = row[j+1].price + b[j].step
	}
	for i := len(a) - 1; i >= 0; i-- {
		if i+1 == middle {
			begin(row)
		}
		row, below = below, row
		fill(row, below, &a[i], b)
	}
	return row[0]
}

// begin makes row the middle row: a script that begins in it enters it there.
func begin(row []cell) {
	for j := range row {
		row[j].cross = j
	}
}

// fill fills the row of x from the row below it. Of edits with the same price, a
// pair comes before a deletion, and a deletion before an insertion.
func fill(row, below []cell, x *part, b []part) {
	end := len(b)
	row[end] = below[end].after(x.step)
	for j := end - 1; j >= 0; j-- {
		best := below[j].after(x.step)
		cost, ok := x.cost(&b[j])
		if ok && below[j+1].price+cost <= best.price {
			best = below[j+1].after(cost)
		}
		if row[j+1].price+b[j].step < best.price {
			best = row[j+1].after(b[j].step)
		}
		row[j] = best
	}
}

// after returns the cell before c from which an edit with this price leads to it.
func (c cell) after(price int) cell {
	c.price += price
	return c
}

// appendScript appends the script of Align from a to b. As the table is not kept,
// the middle row divides the script in two, and a smaller table is filled for
// each half; all of these together are hardly greater than the first one.
func appendScript(script []api.Edit, a, b []part) []api.Edit {
	switch len(a) {
	case 0:
		return appendInsertions(script, b)
	case 1:
		return appendOne(script, a, b)
	}
	middle := len(a) / 2
	cross := firstCell(a, b, middle).cross
	script = appendScript(script, a[:middle], b[:cross])
	return appendScript(script, a[middle:], b[cross:])
}

// appendOne appends the script from the single token of a to b. The script enters
// the row behind that token by a pair, or else by a deletion at once, since that
// comes before any insertion.
func appendOne(script []api.Edit, a, b []part) []api.Edit {
	cross := firstCell(a, b, len(a)).cross
	if cross == 0 {
		script = append(script, api.Edit{A: a[0].index, B: none})
		return appendInsertions(script, b)
	}
	script = appendInsertions(script, b[:cross-1])
	script = append(script, api.Edit{A: a[0].index, B: b[cross-1].index})
	return appendInsertions(script, b[cross:])
}

// appendInsertions appends the insertions of b.
func appendInsertions(script []api.Edit, b []part) []api.Edit {
	for i := range b {
		script = append(script, api.Edit{A: none, B: b[i].index})
	}
	return script
}
