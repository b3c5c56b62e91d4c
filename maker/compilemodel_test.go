package maker_test

import (
	"slices"
	"sort"
	"strings"

	"maker/api"
)

// fault is how the model of Compile stops.
type fault struct {
	errno api.Errno
	line  int
}

func stop(errno api.Errno, line int) { panic(fault{errno, line}) }

type modelCommand struct {
	text string
	line int
}

type modelRule struct {
	targets, needs []string
	commands       []modelCommand
}

func (r *modelRule) isPattern() bool { return strings.Contains(strings.Join(r.targets, ""), "%") }
func (r *modelRule) isPhony() bool   { return len(r.targets) == 1 && r.targets[0] == ".PHONY" }
func (r *modelRule) isPlain() bool   { return !r.isPattern() && !r.isPhony() }

type modelNode struct {
	name     string
	phony    bool
	needs    []string
	stem     string
	from     []modelCommand
	commands []string
}

// rulesModel does what Compile does by the document's words, call within call and list after list,
// where the program has maps, closures and a list of what is open.
type rulesModel struct {
	files          []api.File
	values         map[string]string
	late           map[string]bool
	rules          []*modelRule
	included, open int
	begun          []string
	over           []*modelNode
}

// modelCompile tells the nodes in their order, or the first error and its line.
func modelCompile(files []api.File, path, goal string) (nodes []*modelNode, errno api.Errno, line int) {
	defer func() {
		switch f := recover().(type) {
		case nil:
		case fault:
			nodes, errno, line = nil, f.errno, f.line
		default:
			panic(f)
		}
	}()
	m := &rulesModel{files: files, values: map[string]string{}, late: map[string]bool{}}
	text, ok := m.file(path)
	if !ok {
		stop(api.ErrInclude, 0)
	}
	m.read(text)
	m.order(goal)
	m.commands()
	return m.over, api.OK, 0
}

func (m *rulesModel) file(name string) (string, bool) {
	for _, f := range m.files {
		if f.Path == name {
			return f.Text, true
		}
	}
	return "", false
}

func (m *rulesModel) read(text string) {
	var open *modelRule
	raw := strings.Split(text, "\n")
	for i := 0; i < len(raw); i++ {
		number, line := i+1, raw[i]
		for line != "" && line[len(line)-1] == '\\' {
			line = line[:len(line)-1]
			if i+1 < len(raw) {
				i++
				line += " " + strings.TrimLeft(raw[i], " \t")
			}
		}
		if line != "" && line[0] == '\t' {
			if command := strings.TrimLeft(line, " \t"); command != "" {
				m.command(open, command, number)
			}
			continue
		}
		if at := strings.IndexByte(line, '#'); at >= 0 {
			line = line[:at]
		}
		if line = strings.Trim(line, " \t"); line != "" {
			open = m.other(line, number)
		}
	}
}

func (m *rulesModel) command(open *modelRule, text string, number int) {
	if open == nil {
		stop(api.ErrSyntax, number)
	}
	if len(open.commands) == 0 && !open.isPattern() {
		for _, rule := range m.rules {
			for _, target := range rule.targets {
				if rule != open && len(rule.commands) > 0 && slices.Contains(open.targets, target) {
					stop(api.ErrTwice, number)
				}
			}
		}
	}
	open.commands = append(open.commands, modelCommand{text, number})
}

// other reads a line that is no command, and tells the rule that is open behind it.
func (m *rulesModel) other(line string, number int) *modelRule {
	plain, isRule := modelLine(line)
	if plain == "?" {
		stop(api.ErrSyntax, number)
	}
	if strings.HasPrefix(plain, "include ") {
		m.include(line[len("include"):], number)
		return nil
	}
	at := strings.IndexAny(line, "=:")
	left, right := strings.Trim(line[:at], " \t"), line[at+1:]
	if isRule {
		return m.rule(left, strings.Trim(right, " \t"), number)
	}
	if line[at] == ':' {
		text := m.expand(strings.Trim(right[1:], " \t"), nil, number)
		m.values[left], m.late[left] = text, false
		return nil
	}
	m.values[left], m.late[left] = strings.Trim(right, " \t"), true
	return nil
}

func (m *rulesModel) include(text string, number int) {
	for _, name := range modelWords(m.expand(strings.Trim(text, " \t"), nil, number)) {
		text, ok := m.file(name)
		if !ok {
			stop(api.ErrInclude, number)
		}
		if m.open+1 > 3 {
			stop(api.ErrDeep, number)
		}
		if m.included+1 > 100 {
			stop(api.ErrSize, number)
		}
		m.included++
		m.open++
		m.read(text)
		m.open--
	}
}

func modelWords(text string) []string {
	var words []string
	for _, word := range strings.Split(strings.ReplaceAll(text, "\t", " "), " ") {
		if word != "" {
			words = append(words, word)
		}
	}
	return words
}

func (m *rulesModel) rule(left, right string, number int) *modelRule {
	left = m.expand(left, nil, number)
	right = m.expand(right, nil, number)
	rule := &modelRule{targets: modelWords(left), needs: modelWords(right)}
	bad := len(rule.targets) == 0
	for _, word := range slices.Concat(rule.targets, rule.needs) {
		bad = bad || strings.Count(word, "%") > 1
	}
	if rule.isPattern() {
		bad = bad || len(rule.targets) > 1
	} else {
		bad = bad || strings.Contains(strings.Join(rule.needs, ""), "%")
	}
	if bad {
		stop(api.ErrSyntax, number)
	}
	m.rules = append(m.rules, rule)
	if len(m.rules) > 64 {
		stop(api.ErrSize, number)
	}
	if rule.isPhony() {
		return nil
	}
	return rule
}

const nameLetters = "ABCDEFGHIJKLMNOPQRSTUVWXYZabcdefghijklmnopqrstuvwxyz0123456789_"

func (m *rulesModel) expand(text string, signs map[byte]string, number int) string {
	references := 0
	var whole func(text string, within []string) string
	whole = func(text string, within []string) string {
		out := ""
		for i := 0; i < len(text); i++ {
			if text[i] != '$' {
				out += text[i : i+1]
				continue
			}
			i++
			if i == len(text) {
				stop(api.ErrSyntax, number)
			}
			sign, ok := signs[text[i]]
			switch {
			case text[i] == '$':
				out += "$"
			case ok:
				out += sign
			case text[i] == '(':
				end := i + 1
				for end < len(text) && strings.IndexByte(nameLetters, text[end]) >= 0 {
					end++
				}
				name := text[i+1 : end]
				if end == len(text) || text[end] != ')' || len(name) < 1 || len(name) > 16 {
					stop(api.ErrSyntax, number)
				}
				i = end
				references++
				if references > 300 {
					stop(api.ErrSize, number)
				}
				if !m.late[name] {
					out += m.values[name]
					continue
				}
				if slices.Contains(within, name) {
					stop(api.ErrLoop, number)
				}
				out += whole(m.values[name], append(slices.Clone(within), name))
			default:
				stop(api.ErrSyntax, number)
			}
		}
		if len(out) > 2000 {
			stop(api.ErrSize, number)
		}
		return out
	}
	return whole(text, nil)
}

func (m *rulesModel) order(goal string) {
	for _, rule := range m.rules {
		if goal == "" && rule.isPlain() {
			goal = rule.targets[0]
		}
	}
	if goal == "" {
		stop(api.ErrRule, 0)
	}
	if len(goal) > 2000 {
		stop(api.ErrSize, 0)
	}
	m.visit(goal)
	if len(m.over) > 100 {
		stop(api.ErrSize, 0)
	}
}

func (m *rulesModel) visit(name string) {
	for _, node := range m.over {
		if node.name == name {
			return
		}
	}
	if slices.Contains(m.begun, name) {
		stop(api.ErrCycle, 0)
	}
	m.begun = append(m.begun, name)
	node := m.node(name)
	for _, need := range node.needs {
		m.visit(need)
	}
	m.over = append(m.over, node)
}

func (m *rulesModel) isTarget(name string) bool {
	return slices.ContainsFunc(m.rules, func(r *modelRule) bool { return r.isPlain() && slices.Contains(r.targets, name) })
}

func (m *rulesModel) node(name string) *modelNode {
	node := &modelNode{name: name}
	for _, rule := range m.rules {
		node.phony = node.phony || rule.isPhony() && slices.Contains(rule.needs, name)
		if rule.isPlain() && slices.Contains(rule.targets, name) {
			node.needs = append(node.needs, rule.needs...)
			node.from = append(node.from, rule.commands...)
		}
	}
	_, isFile := m.file(name)
	known := node.phony || isFile || m.isTarget(name)
	if len(node.from) == 0 && !node.phony {
		for _, rule := range m.rules {
			if rule.isPattern() && len(rule.commands) > 0 && m.fit(node, rule) {
				known = true
				break
			}
		}
	}
	if !known {
		stop(api.ErrRule, 0)
	}
	var once []string
	for _, need := range node.needs {
		if !slices.Contains(once, need) {
			once = append(once, need)
		}
	}
	node.needs = once
	return node
}

// fit takes a pattern for a node, if it fits.
func (m *rulesModel) fit(node *modelNode, rule *modelRule) bool {
	at := strings.Index(rule.targets[0], "%")
	ahead, behind := rule.targets[0][:at], rule.targets[0][at+1:]
	for from := 0; from < len(node.name); from++ {
		for to := from + 1; to <= len(node.name); to++ {
			stem := node.name[from:to]
			if ahead+stem+behind != node.name || from != len(ahead) {
				continue
			}
			var needs []string
			for _, need := range rule.needs {
				if at := strings.Index(need, "%"); at >= 0 {
					need = need[:at] + stem + need[at+1:]
				}
				if _, ok := m.file(need); !ok && !m.isTarget(need) {
					return false
				}
				needs = append(needs, need)
			}
			node.needs = append(needs, node.needs...)
			node.from, node.stem = rule.commands, stem
			return true
		}
	}
	return false
}

func (m *rulesModel) commands() {
	count := 0
	for _, node := range m.over {
		signs := map[byte]string{'@': node.name, '<': "", '^': strings.Join(node.needs, " "), '*': node.stem}
		if len(node.needs) > 0 {
			signs['<'] = node.needs[0]
		}
		for _, command := range node.from {
			text := m.expand(command.text, signs, command.line)
			if strings.Trim(text, " \t") != "" {
				node.commands = append(node.commands, text)
				count++
			}
		}
	}
	if count > 500 {
		stop(api.ErrSize, 0)
	}
}

// modelDo does what 'What is done' tells of nodes in their order.
func modelDo(nodes []*modelNode, files []api.File, effects []api.Effect, clock int) api.Result {
	res, _ := modelDone(nodes, files, effects, clock)
	return res
}

// modelDone does it too, and tells which nodes were stale.
func modelDone(nodes []*modelNode, files []api.File, effects []api.Effect, clock int) (api.Result, map[string]bool) {
	world := map[string]api.File{}
	for _, f := range slices.Backward(files) {
		world[f.Path] = f
	}
	res := api.Result{Clock: clock}
	wasStale := map[string]bool{}
	for _, node := range nodes {
		if res.Exit != 0 {
			break
		}
		mine, isFile := world[node.name]
		stale := node.phony || !isFile
		for _, need := range node.needs {
			other, isFile := world[need]
			stale = stale || wasStale[need] || isFile && other.Time > mine.Time
		}
		wasStale[node.name] = stale
		for _, command := range node.commands {
			if !stale || res.Exit != 0 {
				break
			}
			res.Commands = append(res.Commands, command)
			res.Clock++
			at := slices.IndexFunc(effects, func(e api.Effect) bool { return e.Command == command })
			if at < 0 {
				continue
			}
			for _, f := range effects[at].Writes {
				f.Time = res.Clock
				world[f.Path] = f
			}
			res.Exit = effects[at].Exit
		}
	}
	for _, f := range world {
		res.Files = append(res.Files, f)
	}
	sort.Slice(res.Files, func(i, j int) bool { return res.Files[i].Path < res.Files[j].Path })
	return res, wasStale
}
