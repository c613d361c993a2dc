package script_test

import (
	"fmt"
	"slices"
	"strings"
	"testing"

	"copse/api"
	"copse/script"
)

// Answers without a fault.

func TestAnswers(t *testing.T) {
	s := grove(t)
	talks(t, s, `
		cones => cones a b
		closure => closure a/TARGETS a/s/1.c a/x.c b/TARGETS b/y.c
		build => //b:b b/y.c | //a:a a/s/1.c a/x.c //b:b
		profile => = /* | = !/*/ | = /a/ | = /b/
		impact b/y.c => impact //a:a //b:b
		want //c/d:d => ok
		cones => cones .
		profile => = /*
		budget 3 => ok
		cones => cones a b c/d
		closure => closure a/TARGETS a/s/1.c a/x.c b/TARGETS b/y.c c/d/TARGETS c/d/z.c
		build => //b:b b/y.c | //a:a a/s/1.c a/x.c //b:b | //c/d:d c/d/z.c
		profile => = /* | = !/*/ | = /a/ | = /b/ | = /c/ | = !/c/*/ | = /c/d/
		drop //a:a => ok
		cones => cones c/d
		closure => closure c/d/TARGETS c/d/z.c
		build => //c/d:d c/d/z.c
		profile => = /* | = !/*/ | = /c/ | = !/c/*/ | = /c/d/`)
}

func TestRootAsCone(t *testing.T) {
	talks(t, grove(t), `
		budget 1 => ok
		cones => cones .
		profile => = /*`)
	// A target of the root needs no cone, if its sources are there.
	talks(t, script.New(), `
		say TARGETS <target t{srcs=[r,x.*]}target u{deps=[:t]}target v{srcs=[s/*]}> => ok
		put r 1 1 => ok
		put x.h 1 1 => ok
		want //:u => ok
		cones => cones
		profile => = /* | = !/*/
		closure => closure TARGETS r x.h
		build => //:t r x.h | //:u //:t
		drop //:u => ok
		want //:v => ok
		cones => cones
		closure => closure TARGETS
		build => //:v
		put s/x 1 1 => ok
		cones => cones s
		closure => closure TARGETS s/x
		build => //:v s/x
		put s-x 1 1 => ok
		put s/TARGETS.h 1 1 => ok
		build => //:v s/TARGETS.h s/x`)
}

// TestBuildLines: a node without sources and deps, with both, their orders, a package within another.
func TestBuildLines(t *testing.T) {
	talks(t, script.New(), `
		say a/TARGETS <target z{}target b{deps=[//a/b:y,:z,//a-b:x,//:w]srcs=[y,B,b/y,*.c]}> => ok
		put a/y 1 1 => ok
		put a/B 1 1 => ok
		put a/2.c 1 1 => ok
		put a/10.c 1 1 => ok
		put a/b/y 1 1 => ok
		say a/b/TARGETS <target y{see=[//a]}> => ok
		say a-b/TARGETS <target x{srcs=[q]deps=[//:w]see=[public]}> => ok
		put a-b/q 1 1 => ok
		say TARGETS <target w{see=[//...]}> => ok
		want //a:b => ok
		build => //:w | //a:z | //a/b:y | //a-b:x a-b/q //:w | //a:b a/10.c a/2.c a/B a/b/y a/y //:w //a:z //a/b:y //a-b:x
		closure => closure TARGETS a/10.c a/2.c a/B a/TARGETS a/b/TARGETS a/b/y a/y a-b/TARGETS a-b/q
		budget 2 => ok
		cones => cones a a-b
		profile => = /* | = !/*/ | = /a/ | = /a-b/`)
}

func TestImpact(t *testing.T) {
	s := grove(t)
	talks(t, s, `
		say c/e/TARGETS <target> => ok
		say e/TARGETS <target n{srcs=[no]}target m{srcs=[*.h]}target A{}> => ok
		put e/1.h 1 1 => ok
		impact => impact
		impact a/x.c => impact //a:a
		impact b/y.c => impact //a:a //b:b
		impact c/d/z.c => impact //c/d:d
		impact r => impact
		impact q => impact
		impact a => impact
		impact . => impact
		impact c/e/TARGETS => impact
		impact e/TARGETS => impact //e:A //e:m
		impact e/1.h => impact //e:m
		impact e/no e/2.h => impact
		impact e/1.h b/TARGETS c/d/z.c e/1.h => impact //a:a //b:b //c/d:d //e:m
		impact c/d/z.c e/1.h a/x.c r . q => impact //a:a //c/d:d //e:m
		put e/no 1 1 => ok
		impact e/no => impact //e:n
		say c/e/TARGETS <target q{deps=[//e:A]}> => ok
		impact c/e/TARGETS => impact`)
	// What is wanted, the budget and the build's faults play no part.
	was := s.Do("impact b/y.c e/1.h")
	for _, line := range []string{"drop //a:a", "budget 0", "want //q:q"} {
		does(t, "P25.1", s, line, "ok")
		does(t, "P25.1", s, "impact b/y.c e/1.h", was...)
	}
	refuses(t, s, api.ErrText, "impact /", "impact a/x.c ..", "impact a/ a/x.c", "impact //a:a", "impact *.c", "impact a\xff", "impact "+strings.Repeat("a/x.c ", 500)+"/")
}

// Faults.

// foundBy holds a fault against what cones, profile, build and closure answer.
func foundBy(t *testing.T, s *script.Session, fault string) {
	t.Helper()
	for _, q := range []string{"cones", "build", "closure", "profile", "cones"} {
		does(t, "P25.1", s, q, fault)
	}
}

// TestFaults: each one, which goes as it came.
func TestFaults(t *testing.T) {
	for _, c := range []struct {
		line, fault string
	}{
		{said("b/TARGETS", "target"), "fault 1 b/TARGETS 6"},
		{said("b/TARGETS", ";"), "fault 1 b/TARGETS 0"},
		{said("a/TARGETS", "target a { srcs = [x.c, x.c] }"), "fault 1 a/TARGETS 24"},
		{said("a/TARGETS", strings.Repeat("#", 4097)), "fault 1 a/TARGETS 4096"},
		{"cut a/TARGETS", "fault 2 //a:a -"},
		{"cut b/TARGETS", "fault 2 //b:b -"},
		{said("b/TARGETS", ""), "fault 2 //b:b -"},
		{said("b/TARGETS", "target c { }"), "fault 2 //b:b -"},
		{"cut a/x.c", "fault 2 //a:a a/x.c"},
		{"cut b/y.c", "fault 2 //b:b b/y.c"},
		{said("b/TARGETS", "target b { srcs = [z, y.c, q/z, -] see = [public] }"), "fault 2 //b:b b/-"},
		{said("b/TARGETS", "target b { srcs = [y.c] deps = [:b] }"), "fault 3 //b:b"},
		{said("b/TARGETS", "target b { srcs = [y.c] deps = [//a:a] }"), "fault 3 //a:a //b:b"},
		{said("b/TARGETS", "target b { deps = [:d, :c] see = [//a] } target d { deps = [:c, :e] } target c { deps = [:d, :e] } target e { }"), "fault 3 //b:c //b:d"},
		{said("b/TARGETS", "target b { srcs = [y.c] }"), "fault 4 //a:a //b:b"},
		{said("b/TARGETS", "target b { srcs = [y.c] see = [//, //a/b/..., //c] }"), "fault 4 //a:a //b:b"},
		{said("a/TARGETS", "target a { deps = [//c/d:d, //b:b] }"), "fault 4 //a:a //c/d:d"},
		{"want //:n", "fault 2 //:n -"},
		{"want //q/r:n", "fault 2 //q/r:n -"},
	} {
		s := grove(t)
		was := state(s)
		does(t, "P25.1", s, c.line, "ok")
		foundBy(t, s, c.fault)
		// A fault changes nothing: mended, all is as it was.
		mend := map[string]string{
			"a/x.c": "put a/x.c 1 10", "b/y.c": "put b/y.c 3 30",
			"a/TARGETS": said("a/TARGETS", "target a { srcs = [x.c, s/*.c] deps = [//b:b] }"), "b/TARGETS": said("b/TARGETS", "target b { srcs = [y.c] see = [//a] }"),
			"//:n": "drop //:n", "//q/r:n": "drop //q/r:n",
		}[strings.Fields(c.line)[1]]
		does(t, "P25.1", s, mend, "ok")
		if is := state(s); !slices.Equal(is, was) {
			t.Fatalf("P25.1: behind %q and %q: %q, want %q", c.line, mend, is, was)
		}
	}
}

// TestFaultsOrder: of several faults the first alone is told.
func TestFaultsOrder(t *testing.T) {
	s := script.New()
	talks(t, s, `
		say a/TARGETS <target a{srcs=[x]deps=[//b:b,//c:c,:d,:a]}target d{}> => ok
		say b/TARGETS <target b{}> => ok
		say c/TARGETS <target> => ok
		want //a:a => ok
		budget 5 => ok`)
	foundBy(t, s, "fault 1 c/TARGETS 6")
	talks(t, s, "say b/TARGETS <;> => ok")
	foundBy(t, s, "fault 1 b/TARGETS 0")
	talks(t, s, "say b/TARGETS <target b{}> => ok\nsay c/TARGETS <target d{}> => ok")
	foundBy(t, s, "fault 2 //a:a a/x")
	talks(t, s, "put a/x 1 1 => ok")
	foundBy(t, s, "fault 2 //c:c -")
	talks(t, s, "say c/TARGETS <target c{srcs=[z,y/z,y-]}> => ok")
	foundBy(t, s, "fault 2 //c:c c/y/z")
	talks(t, s, "put c/y/z 1 1 => ok\nput c/y- 1 1 => ok")
	foundBy(t, s, "fault 2 //c:c c/z")
	talks(t, s, "put c/z 1 1 => ok")
	foundBy(t, s, "fault 3 //a:a")
	talks(t, s, "say a/TARGETS <target a{deps=[//b:b,//c:c,:d]}target d{deps=[//c:c]}> => ok")
	foundBy(t, s, "fault 4 //a:a //b:b")
	talks(t, s, "say b/TARGETS <target b{see=[//a]}> => ok")
	foundBy(t, s, "fault 4 //a:a //c:c")
	talks(t, s, "say c/TARGETS <target c{see=[public]}> => ok")
	does(t, "P25.1", s, "cones", "cones a b c")
}

// TestFaultsOfCones: of the budget, of no label, of sizes; build and closure have none of these.
func TestFaultsOfCones(t *testing.T) {
	s := grove(t)
	const closure = "closure a/TARGETS a/s/1.c a/x.c b/TARGETS b/y.c"
	coneFault := func(want string) {
		t.Helper()
		does(t, "P25.1", s, "cones", want)
		does(t, "P25.1", s, "profile", want)
	}
	talks(t, s, "budget 0 => ok")
	coneFault("fault 6")
	does(t, "P25.1", s, "closure", closure)
	does(t, "P25.1", s, "build", "//b:b b/y.c", "//a:a a/s/1.c a/x.c //b:b")
	talks(t, s, "cut b/y.c => ok") // the budget is ahead of the build's fault
	coneFault("fault 6")
	does(t, "P25.1", s, "closure", "fault 2 //b:b b/y.c")
	does(t, "P25.1", s, "build", "fault 2 //b:b b/y.c")
	talks(t, s, "put b/y.c 3 30 => ok\nbudget 2 => ok\ndrop //a:a => ok")
	coneFault("fault 6")
	does(t, "P25.1", s, "closure", "closure")
	does(t, "P25.1", s, "build")
	// Sizes: what is in the view counts alone.
	talks(t, s, "want //a:a => ok\nput c/e 1 4611686018427387904 => ok\nput c/f 1 4611686018427387904 => ok\ncones => cones a b\nbudget 1 => ok")
	coneFault("fault 5")
	does(t, "P25.1", s, "closure", closure)
	does(t, "P25.1", s, "build", "//b:b b/y.c", "//a:a a/s/1.c a/x.c //b:b")
	talks(t, s, "impact b/y.c => impact //a:a //b:b\nbudget 2 => ok\ncones => cones a b\nput b/z 1 4611686018427387904 => ok\ncones => cones a b\nput a/z 1 4611686018427387904 => ok")
	coneFault("fault 5")
	talks(t, s, "put a/z 1 4611686018427387000 => ok\ncones => cones a b")
}

// TestSizesAtTheEdge: MaxTotal in all, and one more.
func TestSizesAtTheEdge(t *testing.T) {
	s := script.New()
	talks(t, s, `
		say a/TARGETS <target n{}> => ok
		want //a:n => ok
		put a/1 0 4611686018427387904 => ok
		put a/2 0 4611686018427387893 => ok
		cones => cones a
		put a/2 0 4611686018427387894 => ok
		cones => fault 5
		profile => fault 5
		put a/2 0 4611686018427387893 => ok
		put z 0 1 => ok
		cones => fault 5
		put z 0 0 => ok
		cones => cones a`)
}

// Profiles.

// deepCones is a talk whose cones are directories of which most are long and deep: their text has so many bytes.
func deepCones(t *testing.T, size int) *script.Session {
	t.Helper()
	var dirs []string
	for i := range 64 {
		dirs = append(dirs, fmt.Sprintf("d%02d", i))
	}
	for i := 0; sizeOf(profileOf(dirs)) < size-1300; i++ {
		dirs[i] += strings.Repeat("/abcdefgh", 10)
	}
	for i := range dirs {
		dirs[i] += strings.Repeat("z", min(19, size-sizeOf(profileOf(dirs))))
	}
	if is := sizeOf(profileOf(dirs)); is != size {
		t.Fatalf("the cones' text has %d bytes, want %d", is, size)
	}
	s := script.New()
	for _, d := range dirs {
		does(t, "P25.1", s, said(d+"/TARGETS", "target n{}"), "ok")
		does(t, "P25.1", s, "want //"+d+":n", "ok")
	}
	does(t, "P25.1", s, "budget 64", "ok")
	does(t, "P25.1", s, "cones", strings.Join(append([]string{"cones"}, dirs...), " "))
	return s
}

func TestTooLongProfiles(t *testing.T) {
	for _, size := range []int{api.MaxText - 1, api.MaxText} {
		lines := deepCones(t, size).Do("profile")
		if sizeOf(lines) != size || lines[0] != "= /*" || lines[1] != "= !/*/" {
			t.Errorf("P25.1: a profile of %d bytes, want %d: %q ..", sizeOf(lines), size, lines[:min(len(lines), 3)])
		}
	}
	s := deepCones(t, api.MaxText+1)
	refuses(t, s, api.ErrText, "profile", " profile ")
	does(t, "P25.1", s, "budget 1", "ok")
	does(t, "P25.1", s, "profile", "= /*")
	does(t, "P25.1", s, "budget 64", "ok")
	does(t, "P25.1", s, "profile", "error 18")
}
