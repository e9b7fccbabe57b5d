package tests

import (
	"regexp"
	"slices"
	"strconv"
	"strings"
	"testing"

	"loop.example/g00140/impl"
)

// super is what a superblock's text tells; the zero super is none.
type super struct {
	epoch   int64
	sectors []int64
}

func digits(n int64) string {
	return strconv.FormatInt(n, 10)
}

// rawSuper is text with the right sum behind it, whatever is in it.
func rawSuper(text string) string {
	return text + digits(modelCrc(text))
}

// superOf is a superblock's text of these, right or not, with the right sum.
func superOf(epoch int64, sectors ...int64) string {
	text := "S" + digits(epoch) + ";" + strconv.Itoa(len(sectors)) + ";"
	for _, sector := range sectors {
		text += digits(sector) + ";"
	}
	return rawSuper(text)
}

func pageOf(number int64, epoch int64, body string) string {
	return rawPage(digits(number), digits(epoch), body)
}

// sectorsFrom are n sectors, one behind the other.
func sectorsFrom(first int64, n int) []int64 {
	out := make([]int64, n)
	for i := range out {
		out[i] = first + int64(i)
	}
	return out
}

var superForm = regexp.MustCompile(`^(S([1-9][0-9]{0,8});(0|[1-9][0-9]?);((?:[1-9][0-9]?;)*))(0|[1-9][0-9]{0,9})$`)

// modelSuper says again what a superblock's text is, by an expression for the form.
func modelSuper(text string) (super, bool) {
	m := superForm.FindStringSubmatch(text)
	if m == nil || m[5] != digits(modelCrc(m[1])) {
		return super{}, false
	}
	var s super
	s.epoch, _ = strconv.ParseInt(m[2], 10, 64)
	for _, word := range strings.Split(m[4], ";") {
		if word == "" {
			continue
		}
		sector, _ := strconv.ParseInt(word, 10, 64)
		if sector < 2 || sector > 63 || slices.Contains(s.sectors, sector) {
			return super{}, false
		}
		s.sectors = append(s.sectors, sector)
	}
	if m[3] != strconv.Itoa(len(s.sectors)) || len(s.sectors) > 30 {
		return super{}, false
	}
	return s, true
}

// modelPages says again what Newest and Pages tell; the zero super where none is sound.
func modelPages(d impl.Disk) (super, []string) {
	var best super
	var bodies []string
	for at := range 2 {
		s, is := modelSuper(d.Sectors[at])
		var its []string
		for i, sector := range s.sectors {
			p := modelOpen(d.Sectors[sector])
			is = is && p.code == 0 && p.number == int64(i) && p.epoch <= s.epoch
			its = append(its, p.body)
		}
		if is && s.epoch > best.epoch {
			best, bodies = s, its
		}
	}
	return best, bodies
}

// modelScript says again what a commit writes; nothing where it is refused.
func modelScript(d impl.Disk, bodies []string) []impl.Write {
	best, had := modelPages(d)
	e := int64(0)
	for at := range 2 {
		if s, is := modelSuper(d.Sectors[at]); is && s.epoch > e {
			e = s.epoch
		}
	}
	if e == 999999999 || len(bodies) > 30 {
		return nil
	}
	taken := slices.Clone(best.sectors)
	var writes []impl.Write
	var sectors []int64
	for i, body := range bodies {
		if len(body) > 200 {
			return nil
		}
		if i < len(had) && had[i] == body {
			sectors = append(sectors, best.sectors[i])
			continue
		}
		at := int64(2)
		for slices.Contains(taken, at) {
			at++
		}
		taken, sectors = append(taken, at), append(sectors, at)
		writes = append(writes, impl.Write{Sector: at, Text: pageOf(int64(i), e+1, body)})
	}
	return append(writes, impl.Write{Sector: (e + 1) % 2, Text: superOf(e+1, sectors...)})
}

// modelCut says again what is on the disk when power fails in a commit.
func modelCut(d impl.Disk, bodies []string, done int64, lands []bool, torn int64) impl.Disk {
	script := modelScript(d, bodies)
	if len(script) == 0 || done < 0 {
		return impl.Disk{}
	}
	last := len(script) - 1
	if done <= int64(last) {
		return modelCrash(impl.Disk{Sectors: d.Sectors, Late: script[:done]}, lands, torn)
	}
	held := modelCrash(impl.Disk{Sectors: d.Sectors, Late: script[:last]}, allTrue(last), -1)
	return modelCrash(impl.Disk{Sectors: held.Sectors, Late: script[last:]}, lands, torn)
}

// wantNewest fails unless Newest and Pages tell just this; epoch 0 is none.
func wantNewest(t *testing.T, name string, d impl.Disk, want super, bodies ...string) {
	t.Helper()
	if epoch, sectors := impl.Newest(d); epoch != want.epoch || !slices.Equal(sectors, want.sectors) {
		t.Errorf("%s: the newest is %d with %v, not %d with %v", name, epoch, sectors, want.epoch, want.sectors)
	}
	if got, epoch := impl.Pages(d); epoch != want.epoch || !slices.Equal(got, bodies) {
		t.Errorf("%s: the pages are %q of %d, not %q of %d", name, got, epoch, bodies, want.epoch)
	}
}

// diskWith is a disk with these texts and empty sectors elsewhere.
func diskWith(texts map[int64]string) impl.Disk {
	d := impl.NewDisk()
	for sector, text := range texts {
		d.Sectors[sector] = text
	}
	return d
}

func mustCommit(t *testing.T, d impl.Disk, bodies ...string) impl.Disk {
	t.Helper()
	out, is := impl.Commit(d, bodies)
	if !is {
		t.Fatalf("a commit of %d bodies was refused", len(bodies))
	}
	return out
}

// drawnBodies are few words, so that some are as those of before.
func drawnBodies(n *numbers, most int) []string {
	words := []string{"", "a", "b", "stone", aText('w', 200), aText('v', 199)}
	out := make([]string, n.below(most+1))
	for i := range out {
		out[i] = words[n.below(len(words))]
	}
	return out
}

// drawnSuper puts a superblock, and pages that make it sound or nearly so.
func drawnSuper(n *numbers, d impl.Disk, at int) {
	epoch := []int64{1, 2, 3, 3, 4, 999999998, 999999999}[n.below(7)]
	places := sectorsFrom(2, 62)
	var sectors []int64
	for i, body := range drawnBodies(n, 8) {
		k := n.below(min(len(places), 12))
		sectors = append(sectors, places[k])
		d.Sectors[places[k]] = pageOf(int64(i), epoch-int64(n.below(2)), body)
		places = slices.Delete(places, k, k+1)
	}
	d.Sectors[at] = superOf(epoch, sectors...)
	if len(sectors) == 0 {
		return
	}
	hit := n.below(len(sectors))
	switch n.below(12) {
	case 0:
		d.Sectors[sectors[hit]] = pageOf(int64(hit), epoch+1, "late")
	case 1:
		d.Sectors[sectors[hit]] = pageOf(int64(hit+1), 1, "other")
	case 2:
		d.Sectors[sectors[hit]] += "x"
	case 3:
		d.Sectors[sectors[hit]] = ""
	case 4:
		d.Sectors[at] = superOf(epoch, append(sectors, sectors[hit])...)
	}
}

// drawnShadow is a right disk with two, one or no superblocks, sound or not, and late writes.
func drawnShadow(n *numbers) impl.Disk {
	d := drawnDisk(n, n.below(4))
	for at := range 2 {
		switch n.below(6) {
		case 0:
			d.Sectors[at] = ""
		case 1:
		default:
			drawnSuper(n, d, at)
		}
	}
	return d
}
