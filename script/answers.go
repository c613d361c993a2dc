package script

import (
	"cmp"
	"strconv"
	"strings"

	"copse/api"
	"copse/build"
	"copse/closure"
	"copse/impact"
	"copse/label"
	"copse/profile"
	"copse/snap"
)

// quote is ahead of the lines of a text that is told as it is.
const quote = "= "

// done tells that something was done, or refused.
func done(e api.Errno) []string {
	if e != api.OK {
		return refusal(e)
	}
	return told("ok", nil)
}

// refusal tells an error.
func refusal(e api.Errno) []string {
	return told("error", []string{strconv.Itoa(int(e))})
}

// faulty tells a fault.
func faulty(f api.Fault) []string {
	words := []string{strconv.Itoa(int(f.Code))}
	switch f.Code {
	case api.ErrParse:
		words = append(words, f.Path, strconv.Itoa(f.At))
	case api.ErrMissing:
		words = append(words, label.Print(f.Label), cmp.Or(f.Path, none))
	case api.ErrCycle:
		words = append(words, labelsOf(f.Circle)...)
	case api.ErrSee:
		words = append(words, label.Print(f.Label), label.Print(f.Other))
	}
	return told("fault", words)
}

// cones tells the directories that are needed.
func (s *Session) cones() []string {
	k, f := s.compiler.Result()
	if f.Code != api.OK {
		return faulty(f)
	}
	var words []string
	for _, p := range k {
		words = append(words, cmp.Or(p, root))
	}
	return told("cones", words)
}

// build tells the nodes, in their order.
func (s *Session) build() []string {
	nodes, f := build.Of(s.compiler.Files(), s.compiler.Labels())
	if f.Code != api.OK {
		return faulty(f)
	}
	var lines []string
	for _, n := range nodes {
		words := append(pathsOf(n.Srcs), labelsOf(n.Deps)...)
		lines = append(lines, told(label.Print(n.Label), words)...)
	}
	return lines
}

// closure tells the files that are asked for.
func (s *Session) closure() []string {
	ps, f := closure.Of(s.compiler.Files(), s.compiler.Labels())
	if f.Code != api.OK {
		return faulty(f)
	}
	return told("closure", ps)
}

// profile tells the cones as the lines of a text.
func (s *Session) profile() []string {
	k, f := s.compiler.Result()
	if f.Code != api.OK {
		return faulty(f)
	}
	text, e := profile.Write(k)
	if e != api.OK {
		return refusal(e)
	}
	return quoted(text)
}

// impact tells the labels that a change of some paths reaches. No error is to
// be told: the files are a snapshot.
func (s *Session) impact(paths []string) []string {
	l, _ := impact.Of(s.compiler.Files(), paths)
	return told("impact", labelsOf(l))
}

// files tells all files. No error is to be told here either.
func (s *Session) files() []string {
	text, _ := snap.Print(s.compiler.Files())
	return quoted(text)
}

// told is an answer of one line.
func told(first string, words []string) []string {
	return []string{strings.Join(append([]string{first}, words...), blank)}
}

// quoted is an answer of a text's lines.
func quoted(text string) []string {
	var lines []string
	for line := range strings.Lines(text) {
		lines = append(lines, quote+strings.TrimSuffix(line, lineEnd))
	}
	return lines
}

func labelsOf(l []api.Label) []string {
	var words []string
	for _, a := range l {
		words = append(words, label.Print(a))
	}
	return words
}

func pathsOf(l []api.File) []string {
	var words []string
	for _, f := range l {
		words = append(words, f.Path)
	}
	return words
}
