package impact_test

import (
	"fmt"
	"math/rand"
	"runtime"
	"slices"
	"strings"
	"sync"
	"testing"
	"time"

	"copse/api"
	"copse/impact"
)

// Side by side: many labels, many calls, and no goroutine that stays.

// ended waits till no more goroutines are there than were: one that has said that it is done may not be gone yet.
func ended(t *testing.T, were int) {
	t.Helper()
	for range 2000 {
		if runtime.NumGoroutine() <= were {
			return
		}
		time.Sleep(time.Millisecond)
	}
	t.Errorf("P24.2: %d goroutines, ahead of the calls %d", runtime.NumGoroutine(), were)
}

// TestNumbersOfLabels: none is left out and none told twice, however many there are.
func TestNumbersOfLabels(t *testing.T) {
	var text string
	var want []api.Label
	for n := range 41 {
		l := files("p/TARGETS:"+text, "p/f")
		has(t, l, want)
		tells(t, "P24.2", l, []string{"p/f"}, want)
		tells(t, "P24.2", l, []string{"no"}, nil)
		for k, a := range want {
			one := fmt.Sprintf("p/d%02d/f", k)
			tells(t, "P24.2", with(l, one), []string{one}, []api.Label{a})
		}
		text = fmt.Sprintf("target t%02d { srcs = [f, d%02d/*] }\n", n, n) + text
		want = append(want, lab(fmt.Sprintf("p:t%02d", n)))
	}
}

// most has as many files as there may be, half of them manifests of 8 targets: each target needs the first one of its package, each
// first one that of the next package, as long as that is one of the same ten.
func most() ([]api.File, []api.Label) {
	var words []string
	var all []api.Label
	for p := range api.MaxFiles / 2 {
		text := ""
		for n := range 8 {
			dep := ":t00"
			switch {
			case n == 0 && p%10 == 9 || n == 0 && p == api.MaxFiles/2-1:
				dep = ""
			case n == 0:
				dep = fmt.Sprintf("//p%03d:t00", p+1)
			}
			text = fmt.Sprintf("target t%02d{deps=[%s]srcs=[*]see=[public]}\n", n, dep) + text
			all = append(all, lab(fmt.Sprintf("p%03d:t%02d", p, n)))
		}
		words = append(words, fmt.Sprintf("p%03d/TARGETS:%s", p, text), fmt.Sprintf("p%03d/f", p))
	}
	return files(words...), all
}

func TestMostOfAll(t *testing.T) {
	were := runtime.NumGoroutine()
	l, all := most()
	has(t, l, all)
	tells(t, "P24.3", l, pathsOf(l), all)
	tells(t, "P24.2", l, []string{"no"}, nil)
	tells(t, "P24.2", l, []string{"p012/f"}, all[10*8:13*8])
	tells(t, "P24.2", l, []string{"p019/TARGETS", "p255/f"}, slices.Concat(all[10*8:20*8], all[250*8:]))
	ended(t, were)
}

// TestLongChain: of labels that need one another all over many packages.
func TestLongChain(t *testing.T) {
	const packs = 100
	var words []string
	var all []api.Label
	for p := range packs {
		text := fmt.Sprintf("target a { srcs = [a] deps = [:b] see = [public] } target b { deps = [//p%03d:a] }", p+1)
		if p == packs-1 {
			text = "target a { srcs = [a] deps = [:b] see = [public] } target b { }"
		}
		words = append(words, fmt.Sprintf("p%03d/TARGETS:%s", p, text), fmt.Sprintf("p%03d/a", p))
		all = append(all, labs(fmt.Sprintf("p%03d:a p%03d:b", p, p))...)
	}
	l := files(words...)
	tells(t, "P24.2", l, []string{"p099/a"}, all[:2*packs-1])
	tells(t, "P24.2", l, []string{"p050/a"}, all[:2*50+1])
	tells(t, "P24.2", l, []string{"p000/a"}, all[:1])
	tells(t, "P24.2", l, []string{"p000/TARGETS"}, all[:2])
	tells(t, "P24.2", without(l, "p050/a"), pathsOf(l), all[2*50+1:])
	tells(t, "P24.2", with(l, "p099/TARGETS:target a { deps = [//p000:b] see = [public] }"), pathsOf(l), nil)
}

// TestAgainAndAgain: the same call gives the same answer, by itself and beside others.
func TestAgainAndAgain(t *testing.T) {
	were := runtime.NumGoroutine()
	r := rand.New(rand.NewSource(2451))
	for i := range 40 {
		w := anyWorld(r, i%4)
		l := w.snapshot()
		paths := append(anyPaths(r, l), pick(r, append(pathsOf(l), "no")))
		want := w.told(paths)
		for range 50 {
			tells(t, "P24.2", l, paths, want)
		}
	}
	ended(t, were)
}

// TestFromManyAtOnce: goroutines call with the same lists and with others, at once.
func TestFromManyAtOnce(t *testing.T) {
	were := runtime.NumGoroutine()
	r := rand.New(rand.NewSource(2452))
	type call struct {
		l         []api.File
		paths     []string
		all, want []api.Label
	}
	var calls []call
	for i := range 20 {
		w := anyWorld(r, i%4)
		l := w.snapshot()
		paths := append(anyPaths(r, l), pathsOf(l)[0])
		calls = append(calls, call{l, paths, w.labels(), w.told(paths)})
	}
	l := grove()
	calls = append(calls, call{l, []string{"c/d/o"}, labs(":all :alone a:lib a:test b:bin c/d:base c/d:other"), labs("c/d:other")})
	var callers sync.WaitGroup
	wrong := make(chan string, 64)
	for k := range 32 {
		callers.Go(func() {
			for i := range 20 * len(calls) {
				c := calls[(i+k*k)%len(calls)]
				got, e := impact.Of(c.l, c.paths)
				all, e2 := impact.Labels(c.l)
				if e != api.OK || e2 != api.OK || !slices.Equal(got, c.want) || !slices.Equal(all, c.all) {
					wrong <- fmt.Sprintf("Of(%+v, %q): %v, %d, want %v; Labels: %v, %d", c.l, c.paths, got, e, c.want, all, e2)
					return
				}
			}
		})
	}
	callers.Wait()
	close(wrong)
	for text := range wrong {
		t.Error("P24.2: " + text)
	}
	ended(t, were)
}

// TestNoneStays: whatever is asked, refused calls among it.
func TestNoneStays(t *testing.T) {
	were := runtime.NumGoroutine()
	l := grove()
	for range 300 {
		impact.Of(l, pathsOf(l))
		impact.Of(l, nil)
		impact.Of(l, []string{"q/w", strings.Repeat("x", 999)})
		impact.Of(append(l, api.File{}), pathsOf(l))
		impact.Of(append(l, l[0]), pathsOf(l))
		impact.Of(nil, []string{"r"})
		impact.Labels(l)
	}
	ended(t, were)
}
