// Package pack is layer 1, two numbers in one word: see shared/doc/01-pack.md.
package pack

// How far up in a word its value and its version stand.
const (
	valueAt = 32 * iota
	versionAt
)

// word has no sign, lest bits of one stand in a version that is shifted down.
type word uint64

// pair goes by way of uint32, lest the sign of a value below 0 runs into the version.
func pair(version uint32, value int32) word {
	return word(version)<<versionAt | word(uint32(value))<<valueAt
}

func (w word) version() uint32 { return uint32(w >> versionAt) }

func (w word) value() int32 { return int32(w >> valueAt) }

func (w word) with(value int32) word { return pair(w.version(), value) }

// next leans on 32 bits going round: behind the last version stands 0.
func (w word) next(value int32) word { return pair(w.version()+1, value) }

// put hands on no value that 32 bits do not hold, so that no method of a word needs to ask.
func put(to func(int32) word, value int) (int, bool) {
	v := int32(value)
	if int(v) != value {
		return 0, false
	}
	return int(to(v)), true
}

// Word is the word of a version, 0 to 2^32 - 1, and a value, -2^31 to 2^31 - 1.
func Word(version int, value int) (int, bool) {
	v := uint32(version)
	if int(v) != version {
		return 0, false
	}
	return put(pair(v, 0).with, value)
}

// Version is any word's, 0 to 2^32 - 1.
func Version(w int) int { return int(word(w).version()) }

// Value is any word's, -2^31 to 2^31 - 1.
func Value(w int) int { return int(word(w).value()) }

// Next is the word that comes behind w, with a value of its own: whatever w's is, it is dropped.
func Next(w int, value int) (int, bool) { return put(word(w).next, value) }
