/- The document's functions of layer 6: Same of two frames. By tools/gen-frame-26.py. -/
import Derived.Test.YteelcihgbjhnbaaDoorFmDs
namespace Go.Proofs.YteelcihgbjhnbaaDoor.Fm
set_option maxRecDepth 20000
open Go.RowKit Vm
set_option linter.unusedVariables false
set_option linter.unusedSimpArgs false

set_option maxHeartbeats 4000000 in
theorem dsame_5 (f g : Frm) (l m : List Ran) (w : World) (hl : l.length ≤ 1000) (hm : m.length ≤ 1000) (hf : Rd w (.slice f.set.a f.set.n f.set.c) l) (hg : Rd w (.slice g.set.a g.set.n g.set.c) m) (h_kind : (f.kind == g.kind) = true) (h_id : (f.id == g.id) = true) (h_off : (f.off == g.off) = true) (h_max : (f.max == g.max) = true) (h_code : (f.code == g.code) = true) (h_seq : (f.seq == g.seq) = false) :
    Calls Tryd.prog 25 #[.agg #[.int .u64 f.kind, .int .u64 f.id, .int .u64 f.off, .int .u64 f.max, .int .u64 f.code, .int .u64 f.seq, .int .u64 f.prior, .int .u64 f.delay, .bool f.fin, .string ⟨f.data.toArray⟩, .string ⟨f.cid.toArray⟩, .string ⟨f.token.toArray⟩, .slice f.set.a f.set.n f.set.c], .agg #[.int .u64 g.kind, .int .u64 g.id, .int .u64 g.off, .int .u64 g.max, .int .u64 g.code, .int .u64 g.seq, .int .u64 g.prior, .int .u64 g.delay, .bool g.fin, .string ⟨g.data.toArray⟩, .string ⟨g.cid.toArray⟩, .string ⟨g.token.toArray⟩, .slice g.set.a g.set.n g.set.c]] w fun e w' => e = .returned (.bool (sameF f g l m)) ∧ Below w.heap.size w w' := by
  have HB0 : Hid (Below w.heap.size w ((w.alloc (.cells #[.int .u64 f.kind, .int .u64 f.id, .int .u64 f.off, .int .u64 f.max, .int .u64 f.code, .int .u64 f.seq, .int .u64 f.prior, .int .u64 f.delay, .bool f.fin, .string ⟨f.data.toArray⟩, .string ⟨f.cid.toArray⟩, .string ⟨f.token.toArray⟩, .slice f.set.a f.set.n f.set.c] 36 (0, 0))).alloc (.cells #[.int .u64 g.kind, .int .u64 g.id, .int .u64 g.off, .int .u64 g.max, .int .u64 g.code, .int .u64 g.seq, .int .u64 g.prior, .int .u64 g.delay, .bool g.fin, .string ⟨g.data.toArray⟩, .string ⟨g.cid.toArray⟩, .string ⟨g.token.toArray⟩, .slice g.set.a g.set.n g.set.c] 36 (0, 0)))) := Lib.hid (((Below.refl _ _).alloc (Nat.le_refl _) _).alloc (by simp) _)
  have HS : Hid (sameF f g l m = false) := Lib.hid (by unfold sameF numE txtE; simp [h_kind, h_id, h_off, h_max, h_code, h_seq])
  clear hf hg hl hm
  go_enter Tryd.func25, Tryd.ntmps25
  go_wp2
  go_ret
  exact ⟨by rw [HS.out]; rfl, HB0.out⟩
set_option maxHeartbeats 4000000 in
theorem dsame_6 (f g : Frm) (l m : List Ran) (w : World) (hl : l.length ≤ 1000) (hm : m.length ≤ 1000) (hf : Rd w (.slice f.set.a f.set.n f.set.c) l) (hg : Rd w (.slice g.set.a g.set.n g.set.c) m) (h_kind : (f.kind == g.kind) = true) (h_id : (f.id == g.id) = true) (h_off : (f.off == g.off) = true) (h_max : (f.max == g.max) = true) (h_code : (f.code == g.code) = true) (h_seq : (f.seq == g.seq) = true) (h_prior : (f.prior == g.prior) = false) :
    Calls Tryd.prog 25 #[.agg #[.int .u64 f.kind, .int .u64 f.id, .int .u64 f.off, .int .u64 f.max, .int .u64 f.code, .int .u64 f.seq, .int .u64 f.prior, .int .u64 f.delay, .bool f.fin, .string ⟨f.data.toArray⟩, .string ⟨f.cid.toArray⟩, .string ⟨f.token.toArray⟩, .slice f.set.a f.set.n f.set.c], .agg #[.int .u64 g.kind, .int .u64 g.id, .int .u64 g.off, .int .u64 g.max, .int .u64 g.code, .int .u64 g.seq, .int .u64 g.prior, .int .u64 g.delay, .bool g.fin, .string ⟨g.data.toArray⟩, .string ⟨g.cid.toArray⟩, .string ⟨g.token.toArray⟩, .slice g.set.a g.set.n g.set.c]] w fun e w' => e = .returned (.bool (sameF f g l m)) ∧ Below w.heap.size w w' := by
  have HB0 : Hid (Below w.heap.size w ((w.alloc (.cells #[.int .u64 f.kind, .int .u64 f.id, .int .u64 f.off, .int .u64 f.max, .int .u64 f.code, .int .u64 f.seq, .int .u64 f.prior, .int .u64 f.delay, .bool f.fin, .string ⟨f.data.toArray⟩, .string ⟨f.cid.toArray⟩, .string ⟨f.token.toArray⟩, .slice f.set.a f.set.n f.set.c] 36 (0, 0))).alloc (.cells #[.int .u64 g.kind, .int .u64 g.id, .int .u64 g.off, .int .u64 g.max, .int .u64 g.code, .int .u64 g.seq, .int .u64 g.prior, .int .u64 g.delay, .bool g.fin, .string ⟨g.data.toArray⟩, .string ⟨g.cid.toArray⟩, .string ⟨g.token.toArray⟩, .slice g.set.a g.set.n g.set.c] 36 (0, 0)))) := Lib.hid (((Below.refl _ _).alloc (Nat.le_refl _) _).alloc (by simp) _)
  have HS : Hid (sameF f g l m = false) := Lib.hid (by unfold sameF numE txtE; simp [h_kind, h_id, h_off, h_max, h_code, h_seq, h_prior])
  clear hf hg hl hm
  go_enter Tryd.func25, Tryd.ntmps25
  go_wp2
  go_ret
  exact ⟨by rw [HS.out]; rfl, HB0.out⟩
set_option maxHeartbeats 4000000 in
theorem dsame_7 (f g : Frm) (l m : List Ran) (w : World) (hl : l.length ≤ 1000) (hm : m.length ≤ 1000) (hf : Rd w (.slice f.set.a f.set.n f.set.c) l) (hg : Rd w (.slice g.set.a g.set.n g.set.c) m) (h_kind : (f.kind == g.kind) = true) (h_id : (f.id == g.id) = true) (h_off : (f.off == g.off) = true) (h_max : (f.max == g.max) = true) (h_code : (f.code == g.code) = true) (h_seq : (f.seq == g.seq) = true) (h_prior : (f.prior == g.prior) = true) (h_delay : (f.delay == g.delay) = false) :
    Calls Tryd.prog 25 #[.agg #[.int .u64 f.kind, .int .u64 f.id, .int .u64 f.off, .int .u64 f.max, .int .u64 f.code, .int .u64 f.seq, .int .u64 f.prior, .int .u64 f.delay, .bool f.fin, .string ⟨f.data.toArray⟩, .string ⟨f.cid.toArray⟩, .string ⟨f.token.toArray⟩, .slice f.set.a f.set.n f.set.c], .agg #[.int .u64 g.kind, .int .u64 g.id, .int .u64 g.off, .int .u64 g.max, .int .u64 g.code, .int .u64 g.seq, .int .u64 g.prior, .int .u64 g.delay, .bool g.fin, .string ⟨g.data.toArray⟩, .string ⟨g.cid.toArray⟩, .string ⟨g.token.toArray⟩, .slice g.set.a g.set.n g.set.c]] w fun e w' => e = .returned (.bool (sameF f g l m)) ∧ Below w.heap.size w w' := by
  have HB0 : Hid (Below w.heap.size w ((w.alloc (.cells #[.int .u64 f.kind, .int .u64 f.id, .int .u64 f.off, .int .u64 f.max, .int .u64 f.code, .int .u64 f.seq, .int .u64 f.prior, .int .u64 f.delay, .bool f.fin, .string ⟨f.data.toArray⟩, .string ⟨f.cid.toArray⟩, .string ⟨f.token.toArray⟩, .slice f.set.a f.set.n f.set.c] 36 (0, 0))).alloc (.cells #[.int .u64 g.kind, .int .u64 g.id, .int .u64 g.off, .int .u64 g.max, .int .u64 g.code, .int .u64 g.seq, .int .u64 g.prior, .int .u64 g.delay, .bool g.fin, .string ⟨g.data.toArray⟩, .string ⟨g.cid.toArray⟩, .string ⟨g.token.toArray⟩, .slice g.set.a g.set.n g.set.c] 36 (0, 0)))) := Lib.hid (((Below.refl _ _).alloc (Nat.le_refl _) _).alloc (by simp) _)
  have HS : Hid (sameF f g l m = false) := Lib.hid (by unfold sameF numE txtE; simp [h_kind, h_id, h_off, h_max, h_code, h_seq, h_prior, h_delay])
  clear hf hg hl hm
  go_enter Tryd.func25, Tryd.ntmps25
  go_wp2
  go_ret
  exact ⟨by rw [HS.out]; rfl, HB0.out⟩
set_option maxHeartbeats 4000000 in
theorem dsame_8 (f g : Frm) (l m : List Ran) (w : World) (hl : l.length ≤ 1000) (hm : m.length ≤ 1000) (hf : Rd w (.slice f.set.a f.set.n f.set.c) l) (hg : Rd w (.slice g.set.a g.set.n g.set.c) m) (h_kind : (f.kind == g.kind) = true) (h_id : (f.id == g.id) = true) (h_off : (f.off == g.off) = true) (h_max : (f.max == g.max) = true) (h_code : (f.code == g.code) = true) (h_seq : (f.seq == g.seq) = true) (h_prior : (f.prior == g.prior) = true) (h_delay : (f.delay == g.delay) = true) (h_fin : (f.fin == g.fin) = false) :
    Calls Tryd.prog 25 #[.agg #[.int .u64 f.kind, .int .u64 f.id, .int .u64 f.off, .int .u64 f.max, .int .u64 f.code, .int .u64 f.seq, .int .u64 f.prior, .int .u64 f.delay, .bool f.fin, .string ⟨f.data.toArray⟩, .string ⟨f.cid.toArray⟩, .string ⟨f.token.toArray⟩, .slice f.set.a f.set.n f.set.c], .agg #[.int .u64 g.kind, .int .u64 g.id, .int .u64 g.off, .int .u64 g.max, .int .u64 g.code, .int .u64 g.seq, .int .u64 g.prior, .int .u64 g.delay, .bool g.fin, .string ⟨g.data.toArray⟩, .string ⟨g.cid.toArray⟩, .string ⟨g.token.toArray⟩, .slice g.set.a g.set.n g.set.c]] w fun e w' => e = .returned (.bool (sameF f g l m)) ∧ Below w.heap.size w w' := by
  have HB0 : Hid (Below w.heap.size w ((w.alloc (.cells #[.int .u64 f.kind, .int .u64 f.id, .int .u64 f.off, .int .u64 f.max, .int .u64 f.code, .int .u64 f.seq, .int .u64 f.prior, .int .u64 f.delay, .bool f.fin, .string ⟨f.data.toArray⟩, .string ⟨f.cid.toArray⟩, .string ⟨f.token.toArray⟩, .slice f.set.a f.set.n f.set.c] 36 (0, 0))).alloc (.cells #[.int .u64 g.kind, .int .u64 g.id, .int .u64 g.off, .int .u64 g.max, .int .u64 g.code, .int .u64 g.seq, .int .u64 g.prior, .int .u64 g.delay, .bool g.fin, .string ⟨g.data.toArray⟩, .string ⟨g.cid.toArray⟩, .string ⟨g.token.toArray⟩, .slice g.set.a g.set.n g.set.c] 36 (0, 0)))) := Lib.hid (((Below.refl _ _).alloc (Nat.le_refl _) _).alloc (by simp) _)
  have HS : Hid (sameF f g l m = false) := Lib.hid (by unfold sameF numE txtE; simp [h_kind, h_id, h_off, h_max, h_code, h_seq, h_prior, h_delay, h_fin])
  clear hf hg hl hm
  go_enter Tryd.func25, Tryd.ntmps25
  go_wp2
  go_ret
  exact ⟨by rw [HS.out]; rfl, HB0.out⟩
end Go.Proofs.YteelcihgbjhnbaaDoor.Fm
