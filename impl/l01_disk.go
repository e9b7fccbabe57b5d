package impl

import "iter"

const MaxSectors = 64
const SectorSize = 256
const MaxLate = 200

type Write struct {
	Sector int64
	Text   string
}

type Disk struct {
	Sectors []string
	Late    []Write
}

func DiskOk(d Disk) bool {
	if len(d.Sectors) != MaxSectors || len(d.Late) > MaxLate {
		return false
	}
	for _, text := range d.Sectors {
		if !fitsSector(text) {
			return false
		}
	}
	for _, write := range inOrder(d.Late) {
		if !isSector(write.Sector) || !fitsSector(write.Text) {
			return false
		}
	}
	return true
}

func NewDisk() Disk {
	return Disk{Sectors: make([]string, MaxSectors)}
}

func Put(d Disk, sector int64, text string) (Disk, bool) {
	if !DiskOk(d) || !isSector(sector) || !fitsSector(text) || len(d.Late) == MaxLate {
		return Disk{}, false
	}
	late := make([]Write, 0, len(d.Late)+1)
	for _, write := range inOrder(d.Late) {
		late = append(late, Write{Sector: write.Sector, Text: copyText(write.Text)})
	}
	late = append(late, Write{Sector: sector, Text: copyText(text)})
	return Disk{Sectors: copyTexts(d.Sectors), Late: late}, true
}

func Hold(d Disk) Disk {
	if !DiskOk(d) {
		return Disk{}
	}
	sectors := copyTexts(d.Sectors)
	for _, write := range inOrder(d.Late) {
		sectors[write.Sector] = copyText(write.Text)
	}
	return Disk{Sectors: sectors}
}

func See(d Disk, sector int64) string {
	if !DiskOk(d) || !isSector(sector) {
		return ""
	}
	text := d.Sectors[sector]
	for _, write := range inOrder(d.Late) {
		if write.Sector == sector {
			text = write.Text
		}
	}
	return copyText(text)
}

func Crash(d Disk, lands []bool, torn int64) Disk {
	if !DiskOk(d) {
		return Disk{}
	}
	sectors := copyTexts(d.Sectors)
	for i, write := range inOrder(d.Late) {
		if i == torn {
			sectors[write.Sector] = tornText(write.Text, sectors[write.Sector])
		} else if i < int64(len(lands)) && lands[i] {
			sectors[write.Sector] = copyText(write.Text)
		}
	}
	return Disk{Sectors: sectors}
}

func isSector(sector int64) bool {
	return sector >= 0 && sector < MaxSectors
}

func fitsSector(text string) bool {
	return len(text) <= SectorSize
}

// inOrder numbers writes as int64, so that a number from outside is held
// against them without being made smaller first.
func inOrder(writes []Write) iter.Seq2[int64, Write] {
	return func(yield func(int64, Write) bool) {
		for i, write := range writes {
			if !yield(int64(i), write) {
				return
			}
		}
	}
}

// textPart has no room behind it: what is appended to it goes to memory of its
// own and never over the rest of the text that it was taken from.
func textPart(text string, from int, to int) []byte {
	return []byte(text)[from:to:to]
}

func copyText(text string) string {
	return string(textPart(text, 0, len(text)))
}

func copyTexts(texts []string) []string {
	out := make([]string, 0, len(texts))
	for _, text := range texts {
		out = append(out, copyText(text))
	}
	return out
}

// tornText keeps the end of what was there, because power failed while the
// head was being written over it.
func tornText(text string, there string) string {
	half := len(text) / 2
	head := textPart(text, 0, half)
	if half >= len(there) {
		return string(head)
	}
	return string(append(head, textPart(there, half, len(there))...))
}
