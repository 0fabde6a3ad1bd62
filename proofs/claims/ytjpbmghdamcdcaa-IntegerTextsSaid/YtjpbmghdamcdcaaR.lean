/- Walk: the multiple is added back. -/
import Derived.Test.YtjpbmghdamcdcaaQ
import Derived.Deep.RegionWith
namespace Go.Proofs.Ytjpbmghdamcdcaa
open Go.RowKit

/-- What adding back leaves. -/
def BackDone (w : World) (b off m : Nat) (zs ys : List Int) (e : Ending) (w' : World) : Prop :=
  ∃ zs', e = .returned (.tuple #[]) ∧ Row w' 63 b zs' ∧ zs'.length = zs.length ∧ zs'.take off = zs.take off ∧ zs'.drop (off + m + 1) = zs.drop (off + m + 1) ∧
    (∃ k, val ((zs'.drop off).take (m + 1)) = val ((zs.drop off).take (m + 1)) + val ys - k * pw (m + 1)) ∧ w.grownBy w' (some b)

theorem grownBy_drew {w w' : World} {r : Option Nat} (h : w.drew.grownBy w' r) : w.grownBy w' r := ⟨h.os, h.tape, h.output, h.size, h.block⟩

theorem cell_behind {w2 : World} {e : TypeId} {b off m : Nat} {zs zs2 : List Int} {x : Int} (hr : Row w2 e b zs2) (hl : zs2.length = zs.length) (hd : zs2.drop (off + m) = zs.drop (off + m)) (hlen : off + m < zs.length) (hx : Hid (zs.getD (off + m) 0 = x)) :
    w2.cell? ⟨b, off + m, none⟩ = some (.int .u32 x) := by
  have h := hr.cell (j := off + m) (by omega)
  have := congrArg (fun l : List Int => l.getD 0 0) hd
  simp only [getD_drop, Nat.add_zero] at this
  rw [h, this, hx.out]

set_option maxHeartbeats 1000000 in
theorem addBack_any (w : World) (b off cz m cy : Nat) (zs ys : List Int) (ay : Option Addr) (hR : Row w 63 b zs) (hlen : off + m < zs.length) (hcz : m + 1 ≤ cz) (hY : Sl w ay m cy ys)
    (hne : ∀ b' o, ay = some ⟨b', o, none⟩ → 0 < m → b' ≠ b) (hb : m ≤ 4000000) :
    Calls Try.prog 90 #[.slice (some ⟨b, off, none⟩) (m + 1) cz, .slice ay m cy] w (BackDone w b off m zs ys) := by
  have hm := hidd hY.len
  obtain ⟨x, hxc, hx0, hx1, HX⟩ := hR.at hlen
  have hfr := hR.frozen (off + m)
  have hlm : (m : Int) < ((m + 1 : Nat) : Int) := by omega
  have hm0 : (0 : Int) ≤ (m : Int) := by omega
  have hmc : (m : Int) ≤ (cz : Int) := by omega
  have hRd : Row w.drew 63 b zs := hR
  have hYd : Sl w.drew ay m cy ys := ⟨hY.len, hY.cap, hY.cells⟩
  have hlm2 : (m : Int) < (m : Int) + 1 := by omega
  go_enter Try.func90, Try.ntmps90
  go_wp2
  go_region_with (first | (go_at_call 83; (with_reducible refine (addTimes_any _ _ _ _ _ _ _ _ _ _ _ hRd (by omega) (Nat.le_refl _) hYd hne hb (by omega) (by omega)).mono ?_); rintro e w2 ⟨r, zs2, rfl, hr0, hr1, hrow2, hl2, ht2, hd2, hv2, hg2⟩; have hfr2 := hrow2.frozen (off + m); have hxc2 := cell_behind hrow2 hl2 hd2 hlen HX))
  all_goals
    go_end0
    rw [IntKind.wrap_u32]
    refine ⟨zs2.set (off + m) ((x + r) % 4294967296), rfl, hrow2.set ⟨by omega, by omega⟩, by simp [hl2], ?_, ?_, ?_, grownBy_trans (grownBy_drew hg2) (grownBy_set _ _ _ _)⟩
    · rw [List.take_set_of_le (by omega)]; exact ht2
    · rw [List.drop_set_of_lt (by omega)]
      have := congrArg (List.drop 1) hd2
      simpa [List.drop_drop, Nat.add_assoc] using this
    · refine ⟨(x + r) / 4294967296, ?_⟩
      rw [show (zs2.set (off + m) ((x + r) % 4294967296)).drop off = (zs2.drop off).set m ((x + r) % 4294967296) from by rw [List.drop_set, if_neg (by omega), Nat.add_sub_cancel_left]]
      rw [val_take_succ, val_take_set _ _ _ _ (Nat.le_refl _), getD_set _ _ _ (by rw [List.length_drop]; omega), val_take_succ, getD_drop, HX.out]
      have h1 := pw_split m (x + r)
      rw [Int.mul_add] at h1
      rw [Int.mul_comm ((x + r) / 4294967296)]
      omega

end Go.Proofs.Ytjpbmghdamcdcaa
