/- A copy of a memory: Fork, walked. Conditions: named at each. -/
import Derived.Test.YtkjkmekkcnmjnaaRamK
namespace Go.Proofs.Ytkjkmekkcnmjnaa
open Go.RowKit
open Go.MapKept
set_option linter.unusedVariables false
set_option maxRecDepth 100000
set_option maxHeartbeats 2000000 in
theorem fork_any {n r N mb : Nat} {tab : Nat → Option Nat} {M : Nat → Int} {w : World} (R : RamIn n r N mb tab M w) :
    Calls Try.prog 11 #[.pointer (some ⟨r, 0, none⟩)] w fun e w' => On w w' ∧ ∃ g mb' tab', e = .returned (.pointer (some ⟨g, 0, none⟩)) ∧ RamIn w.heap.size g N mb' tab' M w' := by
  obtain ⟨es, cl, hmap, hT⟩ := R.map
  have c0 : ∀ wr, On w wr → wr.cell? ⟨r, 0, none⟩ = some (.int .i64 (N : Nat)) := fun wr h => blk_cell (h.keep R.cell) 0 rfl
  have c1 : ∀ wr, On w wr → wr.cell? ⟨r, 1, none⟩ = some (.map (some mb)) := fun wr h => blk_cell (h.keep R.cell) 1 rfl
  have hb := On.refl w
  have hb1 := hb.alloc (.map #[] 0)
  have hb2 := hb1.alloc (.mapIter (some mb) cl #[] cl)
  have s1 := alloc_size w (.map #[] 0)
  have H0 : Hid (FkAt n mb (w.alloc (.map #[] 0)).heap.size cl es M w ((w.alloc (.map #[] 0)).alloc (.mapIter (some mb) cl #[] cl)) w.heap.size #[] cl (fun _ => none)) := Lib.hid ⟨hb2, blk_new _ _, Nat.le_refl _, ⟨#[], 0, ((On.refl _).alloc _).keep (blk_new w _), tab_empty⟩, fun k => by simp, fun k b h => (by cases h), fun k k' b h => (by cases h)⟩
  have HR := Lib.hid R
  have HT := Lib.hid (And.intro hmap hT)
  clear R hT s1
  go_enter Try.func11, Try.ntmps11
  go_wp2_with (first | (apply wp_maplen; (case hgd => exact rfl); (case ho => exact rfl); (case ht => exact Try.underlying59); (case hm => exact rfl); (case hb => exact HT.out.1)) | (apply wp_mkmap; (case hgd => exact rfl); (case ho => exact rfl); (case ht => exact Try.underlying59); (case hx => exact rfl)) | (apply wp_range; (case hgd => exact rfl); (case ho => exact rfl); (case ht => exact Try.underlying59); (case hm => exact rfl); (case hb => exact hb1.keep HT.out.1)))
  go_frame
  clear hb1 hb2
  generalize (w.alloc (.map #[] 0)).alloc (.mapIter (some mb) cl #[] cl) = W2 at *
  obtain ⟨it, hit⟩ : ∃ it, (w.alloc (.map #[] 0)).heap.size = it := ⟨_, rfl⟩
  rw [hit] at H0 ⊢
  rw [alloc_size] at hit
  have hit := Lib.hid hit
  go_loopw [4] (fun _ wr => ∃ seen c0 tab2, Hid (FkAt n mb it cl es M w wr w.heap.size seen c0 tab2)) (fun _ wr => wr.rangeLeft mb it)
  case atStart => exact ⟨_, _, _, H0⟩
  case round =>
    obtain ⟨seen, q0, tab2, hr⟩ := hrel
    have HM := Lib.hid (hr.out.on.keep HT.out.1)
    go_wp2_with (apply wp_next; (case hgd => exact rfl); (case ho => exact rfl); (case hx => exact rfl); (case hr => exact hr.out.iter); (case hb => exact HM.out); (case T => exact HT.out.2); (case hc => exact hr.out.clk))
    · intro h0
      have h0 : Hid ((leftOf es seen).size = 0) := Lib.hid (by rw [h0]; rfl)
      have hb := hr.out.on
      go_wp2_with fail
      go_ret
      have hall := all_seen es seen h0.out
      obtain ⟨es2, cl2, hm2, hT2⟩ := hr.out.map
      have hf : ∀ k, tab2 k = none → tab k = none := fun k hk => by
        cases hkb : tab k with
        | none => rfl
        | some b =>
          obtain ⟨e, he, hek, _⟩ := HT.out.2.has k b hkb
          exact absurd hk ((hr.out.done k).2 ⟨e, he, hek, hall e he⟩)
      have hon := (On.refl wr).alloc (.cells #[.int .i64 (N : Nat), .map (some w.heap.size)] 61)
      exact ⟨hr.out.on.trans hon, _, w.heap.size, tab2, rfl, HR.out.pages, ⟨hb.size, Nat.le_refl _, fun k b hk => (hr.out.page k b hk).1⟩, blk_new _ _, ⟨es2, cl2, hon.keep hm2, hT2⟩, fun k b hk => hon.keep (hr.out.page k b hk).2, fun k hk => HR.out.zero k (hf k hk), hr.out.inj, HR.out.byte⟩
    · intro k b e w1 hk64 hkb he hek hev hbut hit1 hen
      have he' : Hid (e ∈ (leftOf es seen).toList) := Lib.hid (Array.mem_toList_iff.2 he)
      have hbi : b ≠ it := fun e => by
        have := hr.out.on.keep (HR.out.page k b hkb)
        rw [e, hr.out.iter] at this; cases this
      have HP := Lib.hid (hbut.keep hbi (hr.out.on.keep (HR.out.page k b hkb)))
      have hmi : w.heap.size ≠ it := by have := hit.out; omega
      obtain ⟨es2, cl2, hm2, hT2⟩ := hr.out.map
      have hn : tab2 k = none := by
        cases hc : tab2 k with
        | none => rfl
        | some c =>
          exfalso
          obtain ⟨x, hx, hxk, hxs⟩ := (hr.out.done k).1 (by rw [hc]; simp)
          obtain ⟨hem, hes⟩ := mem_left he'.out
          have := entry_eq_of_key ((stamped_iff es cl).1 HT.out.2.st).2.2 hx hem (by rw [hxk, hek])
          rw [this, hes] at hxs; cases hxs
      have HS := Lib.hid (And.intro hek (And.intro hbut (And.intro hit1 (And.intro hk64 (And.intro hn (And.intro (hbut.keep hmi hm2) hT2))))))
      have HMI := Lib.hid hmi
      clear he hek hev hbut hit1 hkb hn hm2 hT2 hmi hbi
      go_wp2_with (first | (apply row_ld pgT; (case hgd => exact rfl); (case ho => exact rfl); (case hx => exact rfl); (case hg => exact HP.out); (case hs => exact rw_size _ _)) | (apply wp_page; (case hgd => exact rfl); (case ho => exact rfl)) | (apply wp_pgst; (case hgd => exact rfl); (case ho => exact rfl); (case hx => exact rfl); (case hy => exact rfl); intro w2 h3 h4; have H34 := Lib.hid (And.intro h3 h4); clear h3 h4) | (at_mapUpdate; refine wp_mapPut rfl rfl Try.underlying59 Try.underlying31 rfl rfl rfl (H34.out.1.keep HS.out.2.2.2.2.2.1) HS.out.2.2.2.2.2.2 HS.out.2.2.2.1 HS.out.2.2.2.2.1 ?_; intro w3 h5 h6; have H56 := Lib.hid (And.intro h5 h6); clear h5 h6))
      go_frame
      have HN := hr.out.next HT.out.2.st (Nat.le_refl _) (by have := hit.out; omega) HMI.out he'.out HS.out.1 HS.out.2.1 HS.out.2.2.1 H34.out.1 H34.out.2 H56.out.1 H56.out.2
      refine ⟨⟨_, _, _, _, _, _, _, _, _, _, _, _, _, ⟨_, _, _, Lib.hid HN⟩, rfl⟩, ?_⟩
      have m3 := HN.on.keep HT.out.1
      unfold World.rangeLeft
      rw [m3, HN.iter, HM.out, hr.out.iter]
      exact left_shrinks es seen e he'.out
end Go.Proofs.Ytkjkmekkcnmjnaa
