/- The document's functions of layer 6: Same of two frames. By tools/gen-frame-26.py. -/
import Derived.Test.YteelcihgbjhnbaaDoorFmDt
import Derived.Test.YteelcihgbjhnbaaDoorFmDu
namespace Go.Proofs.YteelcihgbjhnbaaDoor.Fm
set_option maxRecDepth 20000
open Go.RowKit Vm
set_option linter.unusedVariables false
set_option linter.unusedSimpArgs false

set_option maxHeartbeats 4000000 in
theorem dsame_9 (f g : Frm) (l m : List Ran) (w : World) (hl : l.length ≤ 1000) (hm : m.length ≤ 1000) (hf : Rd w (.slice f.set.a f.set.n f.set.c) l) (hg : Rd w (.slice g.set.a g.set.n g.set.c) m) (h_kind : (f.kind == g.kind) = true) (h_id : (f.id == g.id) = true) (h_off : (f.off == g.off) = true) (h_max : (f.max == g.max) = true) (h_code : (f.code == g.code) = true) (h_seq : (f.seq == g.seq) = true) (h_prior : (f.prior == g.prior) = true) (h_delay : (f.delay == g.delay) = true) (h_fin : (f.fin == g.fin) = true) (h_data : (f.data == g.data) = false) :
    Calls Tryd.prog 25 #[.agg #[.int .u64 f.kind, .int .u64 f.id, .int .u64 f.off, .int .u64 f.max, .int .u64 f.code, .int .u64 f.seq, .int .u64 f.prior, .int .u64 f.delay, .bool f.fin, .string ⟨f.data.toArray⟩, .string ⟨f.cid.toArray⟩, .string ⟨f.token.toArray⟩, .slice f.set.a f.set.n f.set.c], .agg #[.int .u64 g.kind, .int .u64 g.id, .int .u64 g.off, .int .u64 g.max, .int .u64 g.code, .int .u64 g.seq, .int .u64 g.prior, .int .u64 g.delay, .bool g.fin, .string ⟨g.data.toArray⟩, .string ⟨g.cid.toArray⟩, .string ⟨g.token.toArray⟩, .slice g.set.a g.set.n g.set.c]] w fun e w' => e = .returned (.bool (sameF f g l m)) ∧ Below w.heap.size w w' := by
  have HB0 : Hid (Below w.heap.size w ((w.alloc (.cells #[.int .u64 f.kind, .int .u64 f.id, .int .u64 f.off, .int .u64 f.max, .int .u64 f.code, .int .u64 f.seq, .int .u64 f.prior, .int .u64 f.delay, .bool f.fin, .string ⟨f.data.toArray⟩, .string ⟨f.cid.toArray⟩, .string ⟨f.token.toArray⟩, .slice f.set.a f.set.n f.set.c] 36 (0, 0))).alloc (.cells #[.int .u64 g.kind, .int .u64 g.id, .int .u64 g.off, .int .u64 g.max, .int .u64 g.code, .int .u64 g.seq, .int .u64 g.prior, .int .u64 g.delay, .bool g.fin, .string ⟨g.data.toArray⟩, .string ⟨g.cid.toArray⟩, .string ⟨g.token.toArray⟩, .slice g.set.a g.set.n g.set.c] 36 (0, 0)))) := Lib.hid (((Below.refl _ _).alloc (Nat.le_refl _) _).alloc (by simp) _)
  have HS : Hid (sameF f g l m = false) := Lib.hid (by unfold sameF numE txtE; simp [h_kind, h_id, h_off, h_max, h_code, h_seq, h_prior, h_delay, h_fin, h_data])
  have s_data : ((⟨f.data.toArray⟩ : ByteArray).toList == (⟨g.data.toArray⟩ : ByteArray).toList) = false := by rw [eq_bytes]; exact h_data
  clear hf hg hl hm
  go_enter Tryd.func25, Tryd.ntmps25
  go_wp2
  go_ret
  exact ⟨by rw [HS.out]; rfl, HB0.out⟩
set_option maxHeartbeats 4000000 in
theorem dsame_10 (f g : Frm) (l m : List Ran) (w : World) (hl : l.length ≤ 1000) (hm : m.length ≤ 1000) (hf : Rd w (.slice f.set.a f.set.n f.set.c) l) (hg : Rd w (.slice g.set.a g.set.n g.set.c) m) (h_kind : (f.kind == g.kind) = true) (h_id : (f.id == g.id) = true) (h_off : (f.off == g.off) = true) (h_max : (f.max == g.max) = true) (h_code : (f.code == g.code) = true) (h_seq : (f.seq == g.seq) = true) (h_prior : (f.prior == g.prior) = true) (h_delay : (f.delay == g.delay) = true) (h_fin : (f.fin == g.fin) = true) (h_data : (f.data == g.data) = true) (h_cid : (f.cid == g.cid) = false) :
    Calls Tryd.prog 25 #[.agg #[.int .u64 f.kind, .int .u64 f.id, .int .u64 f.off, .int .u64 f.max, .int .u64 f.code, .int .u64 f.seq, .int .u64 f.prior, .int .u64 f.delay, .bool f.fin, .string ⟨f.data.toArray⟩, .string ⟨f.cid.toArray⟩, .string ⟨f.token.toArray⟩, .slice f.set.a f.set.n f.set.c], .agg #[.int .u64 g.kind, .int .u64 g.id, .int .u64 g.off, .int .u64 g.max, .int .u64 g.code, .int .u64 g.seq, .int .u64 g.prior, .int .u64 g.delay, .bool g.fin, .string ⟨g.data.toArray⟩, .string ⟨g.cid.toArray⟩, .string ⟨g.token.toArray⟩, .slice g.set.a g.set.n g.set.c]] w fun e w' => e = .returned (.bool (sameF f g l m)) ∧ Below w.heap.size w w' := by
  have HB0 : Hid (Below w.heap.size w ((w.alloc (.cells #[.int .u64 f.kind, .int .u64 f.id, .int .u64 f.off, .int .u64 f.max, .int .u64 f.code, .int .u64 f.seq, .int .u64 f.prior, .int .u64 f.delay, .bool f.fin, .string ⟨f.data.toArray⟩, .string ⟨f.cid.toArray⟩, .string ⟨f.token.toArray⟩, .slice f.set.a f.set.n f.set.c] 36 (0, 0))).alloc (.cells #[.int .u64 g.kind, .int .u64 g.id, .int .u64 g.off, .int .u64 g.max, .int .u64 g.code, .int .u64 g.seq, .int .u64 g.prior, .int .u64 g.delay, .bool g.fin, .string ⟨g.data.toArray⟩, .string ⟨g.cid.toArray⟩, .string ⟨g.token.toArray⟩, .slice g.set.a g.set.n g.set.c] 36 (0, 0)))) := Lib.hid (((Below.refl _ _).alloc (Nat.le_refl _) _).alloc (by simp) _)
  have HS : Hid (sameF f g l m = false) := Lib.hid (by unfold sameF numE txtE; simp [h_kind, h_id, h_off, h_max, h_code, h_seq, h_prior, h_delay, h_fin, h_data, h_cid])
  have s_data : ((⟨f.data.toArray⟩ : ByteArray).toList == (⟨g.data.toArray⟩ : ByteArray).toList) = true := by rw [eq_bytes]; exact h_data
  have s_cid : ((⟨f.cid.toArray⟩ : ByteArray).toList == (⟨g.cid.toArray⟩ : ByteArray).toList) = false := by rw [eq_bytes]; exact h_cid
  clear hf hg hl hm
  go_enter Tryd.func25, Tryd.ntmps25
  go_wp2
  go_ret
  exact ⟨by rw [HS.out]; rfl, HB0.out⟩
set_option maxHeartbeats 4000000 in
theorem dsame_11 (f g : Frm) (l m : List Ran) (w : World) (hl : l.length ≤ 1000) (hm : m.length ≤ 1000) (hf : Rd w (.slice f.set.a f.set.n f.set.c) l) (hg : Rd w (.slice g.set.a g.set.n g.set.c) m) (h_kind : (f.kind == g.kind) = true) (h_id : (f.id == g.id) = true) (h_off : (f.off == g.off) = true) (h_max : (f.max == g.max) = true) (h_code : (f.code == g.code) = true) (h_seq : (f.seq == g.seq) = true) (h_prior : (f.prior == g.prior) = true) (h_delay : (f.delay == g.delay) = true) (h_fin : (f.fin == g.fin) = true) (h_data : (f.data == g.data) = true) (h_cid : (f.cid == g.cid) = true) (h_token : (f.token == g.token) = false) :
    Calls Tryd.prog 25 #[.agg #[.int .u64 f.kind, .int .u64 f.id, .int .u64 f.off, .int .u64 f.max, .int .u64 f.code, .int .u64 f.seq, .int .u64 f.prior, .int .u64 f.delay, .bool f.fin, .string ⟨f.data.toArray⟩, .string ⟨f.cid.toArray⟩, .string ⟨f.token.toArray⟩, .slice f.set.a f.set.n f.set.c], .agg #[.int .u64 g.kind, .int .u64 g.id, .int .u64 g.off, .int .u64 g.max, .int .u64 g.code, .int .u64 g.seq, .int .u64 g.prior, .int .u64 g.delay, .bool g.fin, .string ⟨g.data.toArray⟩, .string ⟨g.cid.toArray⟩, .string ⟨g.token.toArray⟩, .slice g.set.a g.set.n g.set.c]] w fun e w' => e = .returned (.bool (sameF f g l m)) ∧ Below w.heap.size w w' := by
  have HB0 : Hid (Below w.heap.size w ((w.alloc (.cells #[.int .u64 f.kind, .int .u64 f.id, .int .u64 f.off, .int .u64 f.max, .int .u64 f.code, .int .u64 f.seq, .int .u64 f.prior, .int .u64 f.delay, .bool f.fin, .string ⟨f.data.toArray⟩, .string ⟨f.cid.toArray⟩, .string ⟨f.token.toArray⟩, .slice f.set.a f.set.n f.set.c] 36 (0, 0))).alloc (.cells #[.int .u64 g.kind, .int .u64 g.id, .int .u64 g.off, .int .u64 g.max, .int .u64 g.code, .int .u64 g.seq, .int .u64 g.prior, .int .u64 g.delay, .bool g.fin, .string ⟨g.data.toArray⟩, .string ⟨g.cid.toArray⟩, .string ⟨g.token.toArray⟩, .slice g.set.a g.set.n g.set.c] 36 (0, 0)))) := Lib.hid (((Below.refl _ _).alloc (Nat.le_refl _) _).alloc (by simp) _)
  have HS : Hid (sameF f g l m = false) := Lib.hid (by unfold sameF numE txtE; simp [h_kind, h_id, h_off, h_max, h_code, h_seq, h_prior, h_delay, h_fin, h_data, h_cid, h_token])
  have s_data : ((⟨f.data.toArray⟩ : ByteArray).toList == (⟨g.data.toArray⟩ : ByteArray).toList) = true := by rw [eq_bytes]; exact h_data
  have s_cid : ((⟨f.cid.toArray⟩ : ByteArray).toList == (⟨g.cid.toArray⟩ : ByteArray).toList) = true := by rw [eq_bytes]; exact h_cid
  have s_token : ((⟨f.token.toArray⟩ : ByteArray).toList == (⟨g.token.toArray⟩ : ByteArray).toList) = false := by rw [eq_bytes]; exact h_token
  clear hf hg hl hm
  go_enter Tryd.func25, Tryd.ntmps25
  go_wp2
  go_ret
  exact ⟨by rw [HS.out]; rfl, HB0.out⟩
set_option maxHeartbeats 4000000 in
theorem dsame_12 (f g : Frm) (l m : List Ran) (w : World) (hl : l.length ≤ 1000) (hm : m.length ≤ 1000) (hf : Rd w (.slice f.set.a f.set.n f.set.c) l) (hg : Rd w (.slice g.set.a g.set.n g.set.c) m) (h_kind : (f.kind == g.kind) = true) (h_id : (f.id == g.id) = true) (h_off : (f.off == g.off) = true) (h_max : (f.max == g.max) = true) (h_code : (f.code == g.code) = true) (h_seq : (f.seq == g.seq) = true) (h_prior : (f.prior == g.prior) = true) (h_delay : (f.delay == g.delay) = true) (h_fin : (f.fin == g.fin) = true) (h_data : (f.data == g.data) = true) (h_cid : (f.cid == g.cid) = true) (h_token : (f.token == g.token) = true) :
    Calls Tryd.prog 25 #[.agg #[.int .u64 f.kind, .int .u64 f.id, .int .u64 f.off, .int .u64 f.max, .int .u64 f.code, .int .u64 f.seq, .int .u64 f.prior, .int .u64 f.delay, .bool f.fin, .string ⟨f.data.toArray⟩, .string ⟨f.cid.toArray⟩, .string ⟨f.token.toArray⟩, .slice f.set.a f.set.n f.set.c], .agg #[.int .u64 g.kind, .int .u64 g.id, .int .u64 g.off, .int .u64 g.max, .int .u64 g.code, .int .u64 g.seq, .int .u64 g.prior, .int .u64 g.delay, .bool g.fin, .string ⟨g.data.toArray⟩, .string ⟨g.cid.toArray⟩, .string ⟨g.token.toArray⟩, .slice g.set.a g.set.n g.set.c]] w fun e w' => e = .returned (.bool (sameF f g l m)) ∧ Below w.heap.size w w' := by
  have HB0 : Hid (Below w.heap.size w ((w.alloc (.cells #[.int .u64 f.kind, .int .u64 f.id, .int .u64 f.off, .int .u64 f.max, .int .u64 f.code, .int .u64 f.seq, .int .u64 f.prior, .int .u64 f.delay, .bool f.fin, .string ⟨f.data.toArray⟩, .string ⟨f.cid.toArray⟩, .string ⟨f.token.toArray⟩, .slice f.set.a f.set.n f.set.c] 36 (0, 0))).alloc (.cells #[.int .u64 g.kind, .int .u64 g.id, .int .u64 g.off, .int .u64 g.max, .int .u64 g.code, .int .u64 g.seq, .int .u64 g.prior, .int .u64 g.delay, .bool g.fin, .string ⟨g.data.toArray⟩, .string ⟨g.cid.toArray⟩, .string ⟨g.token.toArray⟩, .slice g.set.a g.set.n g.set.c] 36 (0, 0)))) := Lib.hid (((Below.refl _ _).alloc (Nat.le_refl _) _).alloc (by simp) _)
  have HS : Hid (sameF f g l m = decide (l = m)) := Lib.hid (by unfold sameF numE txtE; simp [h_kind, h_id, h_off, h_max, h_code, h_seq, h_prior, h_delay, h_fin, h_data, h_cid, h_token])
  have s_data : ((⟨f.data.toArray⟩ : ByteArray).toList == (⟨g.data.toArray⟩ : ByteArray).toList) = true := by rw [eq_bytes]; exact h_data
  have s_cid : ((⟨f.cid.toArray⟩ : ByteArray).toList == (⟨g.cid.toArray⟩ : ByteArray).toList) = true := by rw [eq_bytes]; exact h_cid
  have s_token : ((⟨f.token.toArray⟩ : ByteArray).toList == (⟨g.token.toArray⟩ : ByteArray).toList) = true := by rw [eq_bytes]; exact h_token
  have CE := Lib.hid (rsame_any _ _ l m _ (hf.below HB0.out) (hg.below HB0.out) hl hm)
  generalize decide (l = m) = R at *
  clear hf hg hl hm
  go_enter Tryd.func25, Tryd.ntmps25
  go_wp2_with fail
  refine CE.out.mono ?_
  rintro e w1 ⟨rfl, hb⟩
  have HB1 := Lib.hid (HB0.out.trans (hb.mono HB0.out.size))
  clear hb
  go_wp2
  go_ret
  exact ⟨by rw [HS.out]; rfl, HB1.out⟩
theorem dsame_any (f g : Frm) (l m : List Ran) (w : World) (hl : l.length ≤ 1000) (hm : m.length ≤ 1000) (hf : Rd w (.slice f.set.a f.set.n f.set.c) l) (hg : Rd w (.slice g.set.a g.set.n g.set.c) m) :
    Calls Tryd.prog 25 #[.agg #[.int .u64 f.kind, .int .u64 f.id, .int .u64 f.off, .int .u64 f.max, .int .u64 f.code, .int .u64 f.seq, .int .u64 f.prior, .int .u64 f.delay, .bool f.fin, .string ⟨f.data.toArray⟩, .string ⟨f.cid.toArray⟩, .string ⟨f.token.toArray⟩, .slice f.set.a f.set.n f.set.c], .agg #[.int .u64 g.kind, .int .u64 g.id, .int .u64 g.off, .int .u64 g.max, .int .u64 g.code, .int .u64 g.seq, .int .u64 g.prior, .int .u64 g.delay, .bool g.fin, .string ⟨g.data.toArray⟩, .string ⟨g.cid.toArray⟩, .string ⟨g.token.toArray⟩, .slice g.set.a g.set.n g.set.c]] w fun e w' => e = .returned (.bool (sameF f g l m)) ∧ Below w.heap.size w w' := by
  by_cases h0 : (f.kind == g.kind) = true
  case neg => exact dsame_0 f g l m w hl hm hf hg  (by simpa using h0)
  by_cases h1 : (f.id == g.id) = true
  case neg => exact dsame_1 f g l m w hl hm hf hg h0 (by simpa using h1)
  by_cases h2 : (f.off == g.off) = true
  case neg => exact dsame_2 f g l m w hl hm hf hg h0 h1 (by simpa using h2)
  by_cases h3 : (f.max == g.max) = true
  case neg => exact dsame_3 f g l m w hl hm hf hg h0 h1 h2 (by simpa using h3)
  by_cases h4 : (f.code == g.code) = true
  case neg => exact dsame_4 f g l m w hl hm hf hg h0 h1 h2 h3 (by simpa using h4)
  by_cases h5 : (f.seq == g.seq) = true
  case neg => exact dsame_5 f g l m w hl hm hf hg h0 h1 h2 h3 h4 (by simpa using h5)
  by_cases h6 : (f.prior == g.prior) = true
  case neg => exact dsame_6 f g l m w hl hm hf hg h0 h1 h2 h3 h4 h5 (by simpa using h6)
  by_cases h7 : (f.delay == g.delay) = true
  case neg => exact dsame_7 f g l m w hl hm hf hg h0 h1 h2 h3 h4 h5 h6 (by simpa using h7)
  by_cases h8 : (f.fin == g.fin) = true
  case neg => exact dsame_8 f g l m w hl hm hf hg h0 h1 h2 h3 h4 h5 h6 h7 (by simpa using h8)
  by_cases h9 : (f.data == g.data) = true
  case neg => exact dsame_9 f g l m w hl hm hf hg h0 h1 h2 h3 h4 h5 h6 h7 h8 (by simpa using h9)
  by_cases h10 : (f.cid == g.cid) = true
  case neg => exact dsame_10 f g l m w hl hm hf hg h0 h1 h2 h3 h4 h5 h6 h7 h8 h9 (by simpa using h10)
  by_cases h11 : (f.token == g.token) = true
  case neg => exact dsame_11 f g l m w hl hm hf hg h0 h1 h2 h3 h4 h5 h6 h7 h8 h9 h10 (by simpa using h11)
  exact dsame_12 f g l m w hl hm hf hg h0 h1 h2 h3 h4 h5 h6 h7 h8 h9 h10 h11
end Go.Proofs.YteelcihgbjhnbaaDoor.Fm
