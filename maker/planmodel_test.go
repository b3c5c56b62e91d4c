package maker_test

import (
	"math/rand"
	"slices"
	"sort"
	"strings"

	"maker/api"
)

func twoBytes(n int) string { return string([]byte{byte(n >> 8), byte(n)}) }

func planOf(code string, list ...string) string {
	var b strings.Builder
	b.WriteString("P1" + twoBytes(len(list)))
	for _, s := range list {
		b.WriteString(twoBytes(len(s)) + s)
	}
	return b.String() + code
}

func push(v int) string     { return "\x01" + string([]byte{byte(v)}) }
func absent(s int) string   { return "\x02" + twoBytes(s) }
func newer(s, t int) string { return "\x03" + twoBytes(s) + twoBytes(t) }
func flag(f int) string     { return "\x04" + string([]byte{byte(f)}) }
func skip(n int) string     { return "\x06" + twoBytes(n) }
func give(s int) string     { return "\x07" + twoBytes(s) }
func set(f int) string      { return "\x08" + string([]byte{byte(f)}) }

const or = "\x05"

// modelForm takes a plan apart by the document's words alone.
func modelForm(p string) (list []string, code string, ok bool) {
	if len(p) < 4 || p[0] != 'P' || p[1] != '1' {
		return nil, "", false
	}
	count := int(p[2])*256 + int(p[3])
	if count > 1000 {
		return nil, "", false
	}
	at := 4
	for len(list) < count {
		if at+2 > len(p) {
			return nil, "", false
		}
		size := int(p[at])*256 + int(p[at+1])
		at += 2
		if at+size > len(p) {
			return nil, "", false
		}
		list = append(list, p[at:at+size])
		at += size
	}
	return list, p[at:], true
}

var modelLength = map[byte]int{1: 2, 2: 3, 3: 5, 4: 2, 5: 1, 6: 3, 7: 3, 8: 2}

// modelSound goes every way through a plan, one by one, where the program goes one way only.
func modelSound(p string) bool {
	list, code, ok := modelForm(p)
	if !ok {
		return false
	}
	named := func(at int) bool { return int(code[at])*256+int(code[at+1]) < len(list) }
	begins := map[int]bool{len(code): true}
	for at := 0; at < len(code); {
		size, ok := modelLength[code[at]]
		if !ok || at+size > len(code) {
			return false
		}
		switch code[at] {
		case 1:
			ok = code[at+1] == 0 || code[at+1] == 1
		case 2, 7:
			ok = named(at + 1)
		case 3:
			ok = named(at+1) && named(at+3)
		}
		if !ok {
			return false
		}
		begins[at] = true
		at += size
	}
	type state struct{ at, height int }
	seen := map[state]bool{}
	heights := map[int]int{}
	work := []state{{0, 0}}
	for len(work) > 0 {
		s := work[len(work)-1]
		work = work[:len(work)-1]
		if seen[s] {
			continue
		}
		seen[s] = true
		heights[s.at]++
		if s.height < 0 || s.height > 16 || !begins[s.at] || heights[s.at] > 1 {
			return false
		}
		if s.at == len(code) {
			if s.height != 0 {
				return false
			}
			continue
		}
		next := s.at + modelLength[code[s.at]]
		switch code[s.at] {
		case 1, 2, 3, 4:
			work = append(work, state{next, s.height + 1})
		case 5:
			if s.height < 2 {
				return false
			}
			work = append(work, state{next, s.height - 1})
		case 6:
			n := int(code[s.at+1])*256 + int(code[s.at+2])
			work = append(work, state{next, s.height - 1}, state{next + n, s.height - 1})
		default:
			work = append(work, state{next, s.height})
		}
	}
	return true
}

// modelRun runs a sound plan by the document's table; files lie in a list, where the program has a map.
func modelRun(p string, files []api.File, effects []api.Effect, clock int) api.Result {
	list, code, _ := modelForm(p)
	var world []api.File
	find := func(name string) int {
		return slices.IndexFunc(world, func(f api.File) bool { return f.Path == name })
	}
	for _, f := range files {
		if find(f.Path) < 0 {
			world = append(world, f)
		}
	}
	num := func(at int) int { return int(code[at])*256 + int(code[at+1]) }
	res := api.Result{Clock: clock}
	var stack []int
	flags := map[byte]int{}
	is := func(b bool) int {
		if b {
			return 1
		}
		return 0
	}
	for at := 0; at < len(code) && res.Exit == 0; {
		op, top := code[at], len(stack)-1
		next := at + modelLength[op]
		switch op {
		case 1:
			stack = append(stack, int(code[at+1]))
		case 2:
			stack = append(stack, is(find(list[num(at+1)]) < 0))
		case 3:
			s, t := find(list[num(at+1)]), find(list[num(at+3)])
			stack = append(stack, is(s >= 0 && t >= 0 && world[t].Time > world[s].Time))
		case 4:
			stack = append(stack, flags[code[at+1]])
		case 5:
			stack = append(stack[:top-1], stack[top]|stack[top-1])
		case 6:
			if stack[top] == 0 {
				next += num(at + 1)
			}
			stack = stack[:top]
		case 7:
			command := list[num(at+1)]
			res.Commands = append(res.Commands, command)
			res.Clock++
			for _, e := range effects {
				if e.Command != command {
					continue
				}
				for _, f := range e.Writes {
					f.Time = res.Clock
					if i := find(f.Path); i >= 0 {
						world[i] = f
					} else {
						world = append(world, f)
					}
				}
				res.Exit = e.Exit
				break
			}
		case 8:
			flags[code[at+1]] = 1
		}
		at = next
	}
	sort.Slice(world, func(i, j int) bool { return world[i].Path < world[j].Path })
	res.Files = world
	return res
}

func sameResult(a, b api.Result) bool {
	return slices.Equal(a.Commands, b.Commands) && slices.Equal(a.Files, b.Files) && a.Exit == b.Exit && a.Clock == b.Clock
}

// randomCondition: code that pushes one, with no more than room on the stack at any time.
func randomCondition(r *rand.Rand, strings, room int) string {
	if room > 1 && r.Intn(3) == 0 {
		return randomCondition(r, strings, room) + randomCondition(r, strings, room-1) + or
	}
	switch r.Intn(4) {
	case 0:
		return push(r.Intn(2))
	case 1:
		return absent(r.Intn(strings))
	case 2:
		return newer(r.Intn(strings), r.Intn(strings))
	}
	return flag(r.Intn(3))
}

// randomBlock: sound code that leaves the stack as it is.
func randomBlock(r *rand.Rand, strings, room, deep int) string {
	var code string
	for range r.Intn(4) {
		switch k := r.Intn(6); {
		case k == 0:
			code += set(r.Intn(3))
		case k == 1 && room > 1:
			code += push(r.Intn(2)) + randomBlock(r, strings, room-1, deep) + skip(0)
		case k <= 3 && deep > 0 && room > 0:
			body := randomBlock(r, strings, room, deep-1)
			if r.Intn(3) == 0 {
				rest := randomBlock(r, strings, room, deep-1)
				body += randomCondition(r, strings, room) + skip(len(rest)) + rest
			}
			code += randomCondition(r, strings, room) + skip(len(body)) + body
		default:
			code += give(r.Intn(strings))
		}
	}
	return code
}

// bend changes a byte or two of a plan, so that it may be sound no more.
func bend(r *rand.Rand, p string) string {
	b := []byte(p)
	for range 1 + r.Intn(2) {
		at := r.Intn(len(b))
		switch r.Intn(4) {
		case 0:
			b[at] = byte(r.Intn(10))
		case 1:
			b[at] += byte(1 - 2*r.Intn(2))
		case 2:
			b = slices.Insert(b, at, byte(r.Intn(10)))
		default:
			b = slices.Delete(b, at, at+1)
		}
		if len(b) == 0 {
			break
		}
	}
	return string(b)
}

func randomFiles(r *rand.Rand, names []string) []api.File {
	var files []api.File
	times := []int{-1 << 63, -1, 0, 1, 2, 3, 1<<63 - 2, 1<<63 - 1}
	for range r.Intn(5) {
		files = append(files, api.File{Path: names[r.Intn(len(names))], Text: names[r.Intn(len(names))], Time: times[r.Intn(len(times))]})
	}
	return files
}

func randomEffects(r *rand.Rand, names []string) []api.Effect {
	var effects []api.Effect
	for range r.Intn(5) {
		e := api.Effect{Command: names[r.Intn(len(names))], Writes: randomFiles(r, names)}
		if r.Intn(4) == 0 {
			e.Exit = r.Intn(5) - 2
		}
		effects = append(effects, e)
	}
	return effects
}
