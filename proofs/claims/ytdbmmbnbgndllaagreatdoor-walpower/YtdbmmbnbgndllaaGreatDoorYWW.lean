import Derived.Test.YtdbmmbnbgndllaaGreatDoorYWV
import Derived.Deep.Cut
import Derived.Deep.CutBlock
/- The walk of WalPower. -/
namespace Go.Proofs.YtdbmmbnbgndllaaGreatDoor
open Go.RowKit

/-- What may be found: what was under way to be written anew, or a beginning of all, with what was safe. -/
def OKf (sf : Nat) (la : List Bs) (an : Bool) (nx : List Bs) (l : List Bs) : Prop := (an = true ∧ l = nx) ∨ (sf ≤ l.length ∧ l.length ≤ la.length ∧ l = la.take l.length)

theorem OKf.take {sf : Nat} {la : List Bs} {an : Bool} {nx : List Bs} (m : Nat) (h1 : sf ≤ m) (h2 : m ≤ la.length) : OKf sf la an nx (la.take m) := by
  have : (la.take m).length = m := by rw [List.length_take]; omega
  exact .inr ⟨by omega, by omega, by rw [this]⟩

theorem RecsP.take {P : Nat → Prop} {w : World} {ro : Option Addr} {rc : Nat} {rs : List Bs} (h : RecsP P w ro rc rs) (m : Nat) : RecsP P w ro rc (rs.take m) := by
  have hl : (rs.take m).length ≤ rs.length := by rw [List.length_take]; omega
  refine ⟨fun h0 => ?_, Nat.le_trans hl h.small⟩
  obtain ⟨b, off, e, hp, hc⟩ := h.cells (by omega)
  refine ⟨b, off, e, hp, fun i hi => ?_⟩
  obtain ⟨ao, cap, q1, q2, q3⟩ := hc i (by omega)
  rw [List.getElem_take]
  exact ⟨ao, cap, q1, q2, q3⟩

theorem underRows : Tryz.prog.underlying 22 = some (.slice (Tryz.prog.elem 22)) := by kernel_rfl
theorem sizeRows (w : World) : (sizeOf (Tryz.prog.elem 22)).run Tryz.prog w = .ok 1 w := by kernel_rfl

/-- The first so many of a row of rows. -/
theorem cutRows (ao : Option Addr) (len cap m : Nat) (hm : m ≤ cap) (w : World) : (Instr.slice 22 (.slice ao len cap) none (some (.int .i64 (m : Int))) none).run Tryz.prog w = .ok (.slice ao m cap) w := by
  rw [run_slice_h (P := Tryz.prog) (w := w) 22 ao len cap underRows .i64 (m : Int) (by omega) (by omega), sizeRows]
  simp only [Result.andThen, sliced, Int.toNat_natCast]
  cases ao with
  | none => simp
  | some a => simp [Addr.add]

theorem BQ.cap {w wr : World} {hp b n B C : Nat} {ao : Option Addr} {cap : Nat} {la : List Bs} {bx : List (Nat × Array Value × TypeId)} {dn : Bool} {OK : List Bs → Prop} (h : BQ w wr hp b n B C ao cap la dn OK bx) : la.length ≤ cap := by
  obtain ⟨R, d, h1, h2, D, Z, S⟩ := h
  obtain ⟨g, A, X⟩ := S.ex
  obtain ⟨vs, V, E⟩ := A.ex
  have := V.le
  rw [E.1] at this
  exact this

theorem PW.bp {w w1 w4 : World} {R : Nat → Nat} {hp b p lg n B C : Nat} (hF : Fr (fun _ => False) w w1) (P : PW w1 w4 (fun _ => 0) R hp b p lg n [] 0 1 B C) {fg : Nat} {cs : Array Value} {T : TypeId} (hb : Bx w1 fg cs T) : BP w w4 hp b n B C 1 lg none 0 [] [] 0 [(fg, cs, T)] := by
  obtain ⟨d, G, h, a, h1, h2, h3, L, c⟩ := P
  refine ⟨R, p, 1, d, G, h, a, h2, h3, Nat.le_refl _, L, ⟨⟨fun k hk => c.up k (Nat.lt_of_lt_of_le hk hF.size), (hF.mono (fun _ _ t => t.elim)).trans c.fr (fun _ _ t => t)⟩, 0, AllAt.nil _ _ _ _, fun x hx => ?_⟩⟩
  have := List.mem_singleton.1 hx
  subst this
  exact ⟨hb.frame c.fr (fun t => t rfl), c.up fg hb.lt, fun h => absurd h (by decide)⟩

set_option maxHeartbeats 4000000 in
set_option maxRecDepth 20000 in
theorem power_walk (w : World) (hT : TabAt w) (hE : ErrT w) (n0 : Int) (ao : Option Addr) (ac : Nat) (ps : List OpA) (hO : OpsAt w ao ps) (f1 : FtA) (hf1 : f1.ok w) (fo : Option Addr) (fc : Nat) (fs : List FtA) (hfs : FtsAt w fo fs) :
    Calls Tryz.prog 6 #[.int .i64 n0, .slice ao ps.length ac, .agg #[.int .i64 f1.acts, .bool f1.done, .slice f1.ko f1.ks.length f1.kc], .slice fo fs.length fc] w fun e w' => e = .returned (.bool true) ∧ Fr (fun _ => False) w w' := by
  have hFa : Fr (fun _ => False) w (w.alloc (.cells #[.int .i64 f1.acts, .bool f1.done, .slice f1.ko f1.ks.length f1.kc] 59)) := (Fr.refl _ _).alloc _
  have A := awake9_any _ (hT.later hFa)
  have hbf := Bx.new w #[.int .i64 f1.acts, .bool f1.done, .slice f1.ko f1.ks.length f1.kc] 59
  obtain ⟨k, hk⟩ : ∃ k : Nat, n0 % 32 = (k : Int) := ⟨(n0 % 32).toNat, by omega⟩
  have hk31 : k ≤ 31 := by omega
  have hand : bits .and .i64 n0 31 = (k : Int) := (i64_and31 n0).trans hk
  have hkI : (k : Int) ≤ 31 := by omega
  have hh : hlf (4 + k) ≤ 16 := by unfold hlf; omega
  have hsm : (ps.length : Int) ≤ 140737488355328 := by have := hO.small; omega
  have hsf : (fs.length : Int) ≤ 140737488355328 := by have := hfs.small; omega
  have HH := hide (And.intro hT (And.intro hO (And.intro hk31 (And.intro hh (And.intro hE (And.intro hf1 (And.intro hfs (And.intro hFa hbf))))))))
  have HA := hide A
  clear A hk hk31 hO hT hh hE hf1 hfs hFa hbf
  go_enter Tryz.func6, Tryz.ntmps6
  go_wp2_with fail
  refine (unhide HA).mono ?_
  rintro e w1 ⟨rfl, hF1⟩
  have HF1 : Hid (Fr (fun _ => False) w w1 ∧ Bx w1 w.heap.size #[.int .i64 f1.acts, .bool f1.done, .slice f1.ko f1.ks.length f1.kc] 59) := hide ⟨(unhide HH).2.2.2.2.2.2.2.1.trans hF1 (fun _ _ t => t), (unhide HH).2.2.2.2.2.2.2.2.keep hF1⟩
  clear HA hF1
  have H1 : Hid (Calls Tryz.prog 14 #[.int .i64 (4 + (k : Int))] w1 fun e w' => ∃ R' p b, e = .returned (.pointer (some ⟨p, 0, none⟩)) ∧ Hid (Dn w' R' p b (4 + k) (Dk.new (4 + k)) ∧ Ch w1 w' (fun _ => 0) R')) := by
    obtain ⟨hT, hO, hk31, hh, _⟩ := unhide HH
    have h := new_dn w1 (fun _ => 0) ⟨hT.later (unhide HF1).1, rfl⟩ (fun _ _ => rfl) (4 + k) (by omega)
    rw [show ((4 + k : Nat) : Int) = 4 + (k : Int) by omega] at h
    refine hide (h.mono ?_)
    rintro e w' ⟨R', p, b, rfl, h1, h2, h3⟩
    exact ⟨R', p, b, rfl, hide ⟨h1, (Ch.refl w1 _).calm h2 h3⟩⟩
  go_wp2_with fail
  refine (unhide H1).mono ?_
  rintro e w2 ⟨R2, hp, b, rfl, HB⟩
  clear H1
  have H2 : Hid (Calls Tryz.prog 21 #[.pointer (some ⟨hp, 0, none⟩)] w2 fun e w' => ∃ R' q, e = .returned (.pointer (some ⟨q, 0, none⟩)) ∧ Hid (Dsk w' R' q b (4 + k) ∧ Dn w' R' hp b (4 + k) (Dk.new (4 + k)) ∧ Ch w1 w' (fun _ => 0) R')) := by
    obtain ⟨D, c⟩ := unhide HB
    refine hide (D.disk.mono ?_)
    rintro e w' ⟨R', q, he, k1, k2, k3, k4⟩
    exact ⟨R', q, he, hide ⟨k1, k2, c.calm k3 k4⟩⟩
  go_wp2_with fail
  refine (unhide H2).mono ?_
  rintro e w3 ⟨R3, q, rfl, HC⟩
  clear H2 HB
  have H3 : Hid (Calls Tryz.prog 20 #[.pointer (some ⟨q, 0, none⟩)] w3 fun e w' => ∃ lg ro rc, e = .returned (.tuple #[.pointer (some ⟨lg, 0, none⟩), .slice ro 0 rc, .nilIface]) ∧ Hid (BP w w' hp b (4 + k) 3000 20 1 lg none 0 [] [] 0 [(w.heap.size, #[.int .i64 f1.acts, .bool f1.done, .slice f1.ko f1.ks.length f1.kc], 59)])) := by
    obtain ⟨hT, hO, hk31, hh, _⟩ := unhide HH
    obtain ⟨kd, D, c⟩ := unhide HC
    refine hide ((Dn.first (B := 0) D kd rfl rfl (by omega) (by omega) (Nat.le_refl _) (by omega) (hold_new0 _ rfl rfl) c).mono ?_)
    rintro e w' ⟨lg, ro, rc, he, R', _, _, P⟩
    exact ⟨lg, ro, rc, he, hide (PW.bp (unhide HF1).1 (P.mono (by omega) (by omega)) (unhide HF1).2)⟩
  go_wp2_with fail
  refine (unhide H3).mono ?_
  rintro e w4 ⟨lg, ro, rc, rfl, HD⟩
  clear H3 HC HF1
  have x0 : w4.cell? ⟨w.heap.size, 0, none⟩ = some (.int .i64 f1.acts) := ((unhide HD).box (List.mem_singleton.2 rfl)).cell 0
  have x1 : w4.cell? ⟨w.heap.size, 1, none⟩ = some (.bool f1.done) := ((unhide HD).box (List.mem_singleton.2 rfl)).cell 1
  have HAR := hide ((unhide HD).arm f1.acts (by have := (unhide HH).2.2.2.2.2.1.acts; omega) f1.done)
  go_wp2_with fail
  refine (unhide HAR).mono ?_
  rintro e w5 ⟨rfl, HD5⟩
  clear HAR HD x0 x1
  go_upto_block 0 with (fail)
  go_cut [15, 16, 17, 18, 19, 20, 21, 22, 23] from 61 to 126 (fun v15 v16 v17 v18 _ _ _ _ _ wc => ∃ (ao : Option Addr) (cap : Nat) (la : List Bs) (no : Option Addr) (nc : Nat) (nx : List Bs) (sf : Nat) (an : Bool), v15 = .slice ao (List.length la) cap ∧ v16 = .slice no (List.length nx) nc ∧ v17 = .int .i64 (sf : Nat) ∧ v18 = .bool an ∧ Hid ((∃ dn, BQ w wc hp b (4 + k) 130000 1000 ao cap la dn (OKf sf la an nx) [(w.heap.size, #[.int .i64 f1.acts, .bool f1.done, .slice f1.ko f1.ks.length f1.kc], 59)]) ∧ RecsP (fun _ => True) w no nc nx ∧ la.length ≤ 1000))
  case first =>
    go_wp2
    go_loopw [15, 16, 17, 18, 19] (fun v15 v16 v17 v18 iv wr => ∃ (i : Nat) (ao : Option Addr) (cap : Nat) (la : List Bs) (no : Option Addr) (nc : Nat) (nx : List Bs) (sf : Nat) (an : Bool), i ≤ ps.length ∧ i ≤ 40 ∧ v15 = .slice ao (List.length la) cap ∧ v16 = .slice no (List.length nx) nc ∧ v17 = .int .i64 (sf : Nat) ∧ v18 = .bool an ∧ iv = .int .i64 (i : Nat) ∧ Hid ((an = false ∧ BP w wr hp b (4 + k) (3000 * (i + 1)) (20 * (i + 1)) (i + 1) lg ao cap la la sf [(w.heap.size, #[.int .i64 f1.acts, .bool f1.done, .slice f1.ko f1.ks.length f1.kc], 59)] ∨ BQ w wr hp b (4 + k) (3000 * (i + 1)) (20 * (i + 1)) ao cap la true (OKf sf la an nx) [(w.heap.size, #[.int .i64 f1.acts, .bool f1.done, .slice f1.ko f1.ks.length f1.kc], 59)]) ∧ RecsP (fun _ => True) w no nc nx ∧ la.length ≤ 1000)) (fun _ _ _ _ iv _ => 40 - (intOf iv).toNat)
    case atStart => exact ⟨0, none, 0, [], none, 0, [], 0, false, Nat.zero_le _, Nat.zero_le _, rfl, rfl, rfl, rfl, rfl, hide ⟨.inl ⟨rfl, unhide HD5⟩, ⟨fun h => absurd h (by simp), by simp⟩, by simp⟩⟩
    case round =>
      obtain ⟨i, bo, bc, la, no, nc, nx, sf, an, hi, hi40, rfl, rfl, rfl, rfl, rfl, HR⟩ := hrel
      clear HD5
      have HEX : Hid ((∃ dn, BQ w wr hp b (4 + k) 130000 1000 bo bc la dn (OKf sf la an nx) [(w.heap.size, #[.int .i64 f1.acts, .bool f1.done, .slice f1.ko f1.ks.length f1.kc], 59)]) ∧ RecsP (fun _ => True) w no nc nx ∧ la.length ≤ 1000) := by
        obtain ⟨h1, h2, h3⟩ := unhide HR
        refine hide ⟨?_, h2, h3⟩
        rcases h1 with ⟨ha, h1⟩ | h1
        · exact ⟨false, (h1.bq (OK := OKf sf la an nx) (fun m q1 q2 => OKf.take m q1 q2)).mono (by omega) (by omega) (fun _ t => t)⟩
        · exact ⟨true, h1.mono (by omega) (by omega) (fun _ t => t)⟩
      by_cases hl1 : i < ps.length
      · have hI1 : (i : Int) < (ps.length : Int) := by omega
        by_cases hl2 : i < 40
        · have hI2 : (i : Int) < 40 := by omega
          rcases (unhide HR).1 with ⟨han, hL⟩ | hDd
          · subst han
            have HL := hide hL
            have HRN := hide (unhide HR).2
            clear hL HR HEX
            have HDN := hide (unhide HL).down
            have hla : (la.length : Int) ≤ 1000 := by have := (unhide HRN).2; omega
            have hsfl : sf ≤ la.length := (unhide HL).fit.2.2
            obtain ⟨pb, po, hpa, hpc⟩ := (unhide HH).2.1.cells (by omega)
            subst hpa
            have hcl : ∀ j, j < 6 → wr.cell? ⟨pb, po + i * 6 + j, none⟩ = (ps[i].vals)[j]? := fun j hj => by
              have h := hpc i hl1 j hj
              have hlt : pb < w.heap.size := by
                have hs : ((ps[i].vals)[j]?).isSome = true := by
                  have : j < ps[i].vals.length := by simpa [OpA.vals] using hj
                  simp [this]
                rw [← h] at hs
                obtain ⟨u, hu⟩ := Option.isSome_iff_exists.1 hs
                exact World.block_lt_of_cell? _ _ hu
              exact ((unhide HL).fr.cell (a := ⟨pb, po + i * 6 + j, none⟩) hlt (fun t => t)).trans h
            obtain ⟨q, hq⟩ : ∃ q, q = ps[i] := ⟨_, rfl⟩
            rw [← hq] at hcl
            have HQ : Hid (q.ok w) := by rw [hq]; exact hide ((unhide HH).2.1.ok i hl1)
            clear hq hpc
            have c0 : wr.cell? ⟨pb, po + i * 6, none⟩ = some (.int .i64 q.kind) := hcl 0 (by omega)
            have c1 : wr.cell? ⟨pb, po + i * 6 + 1, none⟩ = some (.int .i64 q.num) := hcl 1 (by omega)
            have c2 : wr.cell? ⟨pb, po + i * 6 + 2, none⟩ = some (.slice q.bo q.bs.length q.bc) := hcl 2 (by omega)
            have c3 : wr.cell? ⟨pb, po + i * 6 + 3, none⟩ = some (.slice q.ro q.rs.length q.rc) := hcl 3 (by omega)
            have c4 : wr.cell? ⟨pb, po + i * 6 + 4, none⟩ = some (.bool q.more) := hcl 4 (by omega)
            have c5 : wr.cell? ⟨pb, po + i * 6 + 5, none⟩ = some (.slice q.ko q.ks.length q.kc) := hcl 5 (by omega)
            clear hcl
            go_wp2_with fail
            refine (unhide HDN).mono ?_
            rintro e u ⟨rfl, rfl⟩
            clear HDN
            go_upto_block 1 with (fail)
            go_cut [15, 16, 17, 18, 20, 21, 22, 23] from 61 to 126 (fun v15 v16 v17 v18 _ _ _ _ wc => ∃ (ao : Option Addr) (cap : Nat) (la : List Bs) (no : Option Addr) (nc : Nat) (nx : List Bs) (sf : Nat) (an : Bool), v15 = .slice ao (List.length la) cap ∧ v16 = .slice no (List.length nx) nc ∧ v17 = .int .i64 (sf : Nat) ∧ v18 = .bool an ∧ Hid ((an = false ∧ BP w wc hp b (4 + k) (3000 * (i + 1 + 1)) (20 * ((i + 1) + 1)) ((i + 1) + 1) lg ao cap la la sf [(w.heap.size, #[.int .i64 f1.acts, .bool f1.done, .slice f1.ko f1.ks.length f1.kc], 59)] ∨ BQ w wc hp b (4 + k) (3000 * (i + 1 + 1)) (20 * ((i + 1) + 1)) ao cap la true (OKf sf la an nx) [(w.heap.size, #[.int .i64 f1.acts, .bool f1.done, .slice f1.ko f1.ks.length f1.kc], 59)]) ∧ RecsP (fun _ => True) w no nc nx ∧ la.length ≤ 1000))
            case first =>
              go_upto_region 16 with (fail)
              have HV : Hid (BP w (u.alloc (.cells #[.int .i64 q.kind, .int .i64 q.num, .slice q.bo q.bs.length q.bc, .slice q.ro q.rs.length q.rc, .bool q.more, .slice q.ko q.ks.length q.kc] 40)) hp b (4 + k) (3000 * (i + 1)) (20 * (i + 1)) (i + 1) lg bo bc la la sf [(u.heap.size, #[.int .i64 q.kind, .int .i64 q.num, .slice q.bo q.bs.length q.bc, .slice q.ro q.rs.length q.rc, .bool q.more, .slice q.ko q.ks.length q.kc], 40), (w.heap.size, #[.int .i64 f1.acts, .bool f1.done, .slice f1.ko f1.ks.length f1.kc], 59)]) := hide ((unhide HL).new _ _)
              clear HL c0 c1 c2 c3 c4 c5
              generalize u.alloc (.cells #[.int .i64 q.kind, .int .i64 q.num, .slice q.bo q.bs.length q.bc, .slice q.ro q.rs.length q.rc, .bool q.more, .slice q.ko q.ks.length q.kc] 40) = v at *
              generalize u.heap.size = og at *
              have d0 : v.cell? ⟨og, 0, none⟩ = some (.int .i64 q.kind) := ((unhide HV).box (List.mem_cons_self ..)).cell 0
              go_upto_block 2 with (fail)
              have hbi : (q.bs.length : Int) ≤ 140737488355328 := by have := (unhide HQ).bytes.2.2; omega
              have hri : (q.rs.length : Int) ≤ 140737488355328 := by have := (unhide HQ).rows.small; omega
              have HF : Hid (∀ x, Fr (fun _ => False) w x → ErrT x) := hide (fun x hx => (hx.cell (a := ⟨0, 0, none⟩) (World.block_lt_of_cell? _ _ (unhide HH).2.2.2.2.1) (fun t => t)).trans (unhide HH).2.2.2.2.1)
              by_cases hk0 : q.kind = 0
              · have d2 : v.cell? ⟨og, 2, none⟩ = some (.slice q.bo q.bs.length q.bc) := ((unhide HV).box (List.mem_cons_self ..)).cell 2
                by_cases hfit : (strm (la ++ [q.bs])).length ≤ 504 * hlf (4 + k)
                · have HAp := hide ((unhide HV).append (OK := OKf sf (la ++ [q.bs]) false nx) (by omega) (by have := (unhide HH).2.2.1; omega) (by omega) q.bo q.bc q.bs (unhide HQ).bytes hfit (fun m q1 q2 => OKf.take m q1 (by simpa using q2)))
                  have hl2' : la.length ≤ 800 := by have := (unhide HV).fit; have := (unhide HH).2.2.2.1; omega
                  have HLA := hide hl2'
                  clear hfit HV d0 hl2'
                  go_wp2_with fail
                  refine (unhide HAp).mono ?_
                  rintro e v2 (⟨rfl, HV2⟩ | ⟨rfl, HV2⟩)
                  · clear HAp d2
                    have HV3 := hide ((unhide HV2).keep ((Fr.refl _ _).alloc (.cells #[.slice q.bo q.bs.length q.bc] 37)))
                    have d2 : v2.cell? ⟨og, 2, none⟩ = some (.slice q.bo q.bs.length q.bc) := ((unhide HV2).box (List.mem_cons_self ..)).cell 2
                    obtain ⟨R, g, hA, hz, hsz, hback⟩ := (unhide HV3).grow (unhide HH).1
                    have HGR := hide (And.intro hA (And.intro hz (And.intro hsz hback)))
                    clear hA hz hsz hback HV2 HV3
                    go_wp2_with (at_builtin; refine wpList_append_all w _ R rfl (.tmp 95) (.tmp 98) rfl (ao := bo) (cap := bc) (g := g) (n := la.length) (l := la) rfl ?hAlla rfl _ [.slice q.bo q.bs.length q.bc] 1 [q.bs] rfl ?hElsa rfl ?hSrca ?hZera ?hSiza ?hFitta ?hNexta)
                    case hAlla => exact (unhide HGR).1
                    case hElsa =>
                      refine ⟨rfl, fun i h1 h2 => ?_⟩
                      have e : i = 0 := by simp at h1; omega
                      subst e
                      exact ⟨q.bo, q.bc, rfl, (unhide HQ).bytes⟩
                    case hSrca =>
                      have hnew := Bx.new v2 #[.slice q.bo q.bs.length q.bc] 37
                      refine Src.ofSlice _ Tryz.underlying22 ⟨v2.heap.size, 0, none⟩ 1 1 _ rfl (fun j u hj => ?_) (fun u hu => ?_)
                      · rw [Addr.add_lit, Nat.zero_add, hnew.cell j, ← hj, List.getElem?_toArray]
                      · simp at hu; subst hu; rfl
                    case hZera => exact (unhide HGR).2.1
                    case hSiza => exact (unhide HGR).2.2.1
                    case hFitta => omega
                    case hNexta =>
                      intro ao' cap' w' g' hA hF' hg
                      have HV4 := hide ((unhide HGR).2.2.2 w' ao' cap' g' _ hA hF' (by rcases hg with h | h; (· exact .inl h); exact .inr (by rw [heap_alloc]; exact h)))
                      clear hA hF' hg HGR
                      go_wp2
                      go_meet
                      case rel => exact ⟨ao', cap', la ++ [q.bs], no, nc, nx, sf, false, by simp, rfl, rfl, rfl, hide ⟨.inl ⟨rfl, (unhide HV4).tail.mono (by have := (unhide HH).2.2.2.1; omega) (by have := (unhide HH).2.2.2.1; omega) (by omega)⟩, (unhide HRN).1, (by have := unhide HLA; simp; omega)⟩⟩
                  · clear HAp d2
                    have HNU := hide (number_err v2 (unhide HF _ (unhide HV2).fr) 5)
                    go_wp2_with fail
                    refine (unhide HNU).mono ?_
                    rintro e nw ⟨rfl, hnf⟩
                    have HNW := hide ((unhide HV2).keep hnf)
                    clear hnf HNU HV2
                    have HV3 := hide ((unhide HNW).keep ((Fr.refl _ _).alloc (.cells #[.slice q.bo q.bs.length q.bc] 37)))
                    have d2 : nw.cell? ⟨og, 2, none⟩ = some (.slice q.bo q.bs.length q.bc) := ((unhide HNW).box (List.mem_cons_self ..)).cell 2
                    obtain ⟨R, g, hA, hz, hsz, hback⟩ := (unhide HV3).grow (unhide HH).1
                    have HGR := hide (And.intro hA (And.intro hz (And.intro hsz hback)))
                    clear hA hz hsz hback HNW HV3
                    go_wp2_with (at_builtin; refine wpList_append_all w _ R rfl (.tmp 95) (.tmp 98) rfl (ao := bo) (cap := bc) (g := g) (n := la.length) (l := la) rfl ?hAllb rfl _ [.slice q.bo q.bs.length q.bc] 1 [q.bs] rfl ?hElsb rfl ?hSrcb ?hZerb ?hSizb ?hFittb ?hNextb)
                    case hAllb => exact (unhide HGR).1
                    case hElsb =>
                      refine ⟨rfl, fun i h1 h2 => ?_⟩
                      have e : i = 0 := by simp at h1; omega
                      subst e
                      exact ⟨q.bo, q.bc, rfl, (unhide HQ).bytes⟩
                    case hSrcb =>
                      have hnew := Bx.new nw #[.slice q.bo q.bs.length q.bc] 37
                      refine Src.ofSlice _ Tryz.underlying22 ⟨nw.heap.size, 0, none⟩ 1 1 _ rfl (fun j u hj => ?_) (fun u hu => ?_)
                      · rw [Addr.add_lit, Nat.zero_add, hnew.cell j, ← hj, List.getElem?_toArray]
                      · simp at hu; subst hu; rfl
                    case hZerb => exact (unhide HGR).2.1
                    case hSizb => exact (unhide HGR).2.2.1
                    case hFittb => omega
                    case hNextb =>
                      intro ao' cap' w' g' hA hF' hg
                      have HV4 := hide ((unhide HGR).2.2.2 w' ao' cap' g' _ hA hF' (by rcases hg with h | h; (· exact .inl h); exact .inr (by rw [heap_alloc]; exact h)))
                      clear hA hF' hg HGR
                      go_wp2
                      go_meet
                      case rel => exact ⟨ao', cap', la ++ [q.bs], no, nc, nx, sf, false, by simp, rfl, rfl, rfl, hide ⟨.inr ((unhide HV4).tail.mono (by have := (unhide HH).2.2.2.1; omega) (by have := (unhide HH).2.2.2.1; omega) (fun _ t => t)), (unhide HRN).1, (by have := unhide HLA; simp; omega)⟩⟩
                · have HAp := hide ((unhide HV).appendFull (by omega) (by have := (unhide HH).2.2.1; omega) q.bo q.bc q.bs (by omega))
                  clear hfit HV d0
                  go_wp2_with fail
                  refine (unhide HAp).mono ?_
                  rintro e v2 ⟨rfl, HV2⟩
                  clear HAp d2
                  have HNU := hide (number_err v2 (unhide HF _ (unhide HV2).fr) 91)
                  go_wp2_with fail
                  refine (unhide HNU).mono ?_
                  rintro e nw ⟨rfl, hnf⟩
                  have HNW := hide ((unhide HV2).keep hnf)
                  clear hnf HNU HV2
                  go_wp2
                  go_meet
                  case rel => exact ⟨bo, bc, la, no, nc, nx, sf, false, rfl, rfl, rfl, rfl, hide ⟨.inl ⟨rfl, (unhide HNW).tail.mono (by omega) (by omega) (by omega)⟩, (unhide HRN).1, (unhide HRN).2⟩⟩
              · by_cases hk1 : q.kind = 1
                · have HSY := hide ((unhide HV).sync (OK := OKf sf la false nx) (by omega) (fun m q1 q2 => OKf.take m q1 q2))
                  clear HV d0
                  go_wp2_with fail
                  refine (unhide HSY).mono ?_
                  rintro e v2 (⟨rfl, HV2⟩ | ⟨rfl, HV2⟩)
                  · clear HSY
                    go_wp2
                    go_meet
                    case rel => exact ⟨bo, bc, la, no, nc, nx, la.length, false, rfl, rfl, rfl, rfl, hide ⟨.inl ⟨rfl, (unhide HV2).tail.mono (by omega) (by omega) (by omega)⟩, (unhide HRN).1, (unhide HRN).2⟩⟩
                  · clear HSY
                    go_wp2
                    go_meet
                    case rel => exact ⟨bo, bc, la, no, nc, nx, sf, false, rfl, rfl, rfl, rfl, hide ⟨.inr ((unhide HV2).tail.mono (by omega) (by omega) (fun _ t => t)), (unhide HRN).1, (unhide HRN).2⟩⟩
                · by_cases hk2 : q.kind = 2
                  · have d3 : v.cell? ⟨og, 3, none⟩ = some (.slice q.ro q.rs.length q.rc) := ((unhide HV).box (List.mem_cons_self ..)).cell 3
                    by_cases hfit : (strm q.rs).length ≤ 504 * hlf (4 + k)
                    · have HRW := hide ((unhide HV).rewrite (OK := OKf sf la true q.rs) (by omega) (by have := (unhide HH).2.2.1; omega) (by have := (unhide HH).2.2.2.1; omega) (by omega) (by omega) q.ro q.rc q.rs (unhide HQ).rows hfit (fun m q1 q2 => OKf.take m q1 q2) (.inl ⟨rfl, rfl⟩))
                      have hrl : q.rs.length ≤ 800 := by have h := strm_count q.rs q.rs.length (Nat.le_refl _); rw [List.take_length] at h; have := (unhide HH).2.2.2.1; omega
                      have HRL := hide hrl
                      clear hfit HV d0 hrl
                      go_wp2_with fail
                      refine (unhide HRW).mono ?_
                      rintro e v2 (⟨rfl, HV2⟩ | ⟨rfl, HV2⟩)
                      · clear HRW d3
                        have HNU := hide (number_nil v2)
                        go_wp2_with fail
                        refine (unhide HNU).mono ?_
                        rintro e nw ⟨rfl, hnf⟩
                        have HNW := hide ((unhide HV2).keep hnf)
                        clear hnf HNU HV2
                        obtain ⟨us, hEl, hSr, hOn⟩ := (unhide HQ).rows.els
                        have HEL := hide (And.intro hEl (And.intro hSr hOn))
                        clear hEl hSr hOn
                        have HV3 := hide ((unhide HNW).keep ((Fr.refl _ _).alloc (.cells #[] 37)))
                        have d3 : (nw.alloc (.cells #[] 37)).cell? ⟨og, 3, none⟩ = some (.slice q.ro q.rs.length q.rc) := ((unhide HV3).box (List.mem_cons_self ..)).cell 3
                        obtain ⟨R, hA, hz, hsz, hback⟩ := (unhide HV3).anew
                        have HGR := hide (And.intro hA (And.intro hz (And.intro hsz hback)))
                        have HFR := hide (unhide HV3).fr
                        clear hA hz hsz hback HNW HV3
                        go_wp2_with (at_builtin; refine wpList_append_all w _ R rfl (.tmp 121) (.tmp 123) rfl (ao := some ⟨nw.heap.size, 0, none⟩) (cap := 0) (g := nw.heap.size) (n := 0) (l := []) rfl ?hAll2 rfl _ us q.rs.length q.rs rfl ?hEls2 rfl ?hSrc2 ?hZer2 ?hSiz2 ?hFit2 ?hNext2)
                        case hAll2 => exact (unhide HGR).1 _ _
                        case hEls2 => exact (unhide HEL).1
                        case hSrc2 =>
                          obtain ⟨hEl, hSr, hOn⟩ := unhide HEL
                          rcases Nat.eq_zero_or_pos q.rs.length with e | e
                          · have hu : us = [] := List.eq_nil_of_length_eq_zero (by rw [hEl.1]; exact e)
                            rw [e, hu]
                            cases hro : q.ro with
                            | none => exact Src.ofNil _ Tryz.underlying22 _
                            | some x => exact Src.ofSlice _ Tryz.underlying22 x 0 _ [] rfl (fun j u hj => by simp at hj) (fun u hu => by cases hu)
                          · obtain ⟨bb, off, e1, hc⟩ := hSr e
                            rw [e1]
                            refine Src.ofSlice _ Tryz.underlying22 ⟨bb, off, none⟩ _ _ us (by rw [hEl.1]; omega) (fun j u hj => ?_) hOn
                            rw [Addr.add_lit]
                            have h := hc j u hj
                            exact ((unhide HFR).cell (a := ⟨bb, off + j, none⟩) (World.block_lt_of_cell? _ _ h) (fun t => t)).trans h
                        case hZer2 => exact (unhide HGR).2.1
                        case hSiz2 => exact (unhide HGR).2.2.1
                        case hFit2 => have := unhide HRL; omega
                        case hNext2 =>
                          intro ao' cap' w' g' hA hF' hg
                          have HV4 := hide ((unhide HGR).2.2.2 w' ao' cap' g' _ hA (by first | exact hF' | exact hF'.mono (fun _ _ t => by simp at t)) (fun hc => by rcases hg with h | h; (· omega); (rw [heap_alloc]; simpa using h)))
                          clear hA hF' hg HGR
                          go_wp2
                          go_meet
                          case rel => exact ⟨ao', cap', q.rs, no, nc, nx, q.rs.length, false, by simp, rfl, by simp, rfl, hide ⟨.inl ⟨rfl, (unhide HV4).tail.mono (by have := (unhide HH).2.2.2.1; omega) (by have := (unhide HH).2.2.2.1; omega) (by omega)⟩, (unhide HRN).1, (by have := unhide HRL; omega)⟩⟩
                      · clear HRW d3
                        have HNU := hide (number_err v2 (unhide HF _ (unhide HV2).fr) 5)
                        go_wp2_with fail
                        refine (unhide HNU).mono ?_
                        rintro e nw ⟨rfl, hnf⟩
                        have HNW := hide ((unhide HV2).keep hnf)
                        clear hnf HNU HV2
                        have d3 : nw.cell? ⟨og, 3, none⟩ = some (.slice q.ro q.rs.length q.rc) := ((unhide HNW).box (List.mem_cons_self ..)).cell 3
                        go_wp2
                        go_meet
                        case rel => exact ⟨bo, bc, la, q.ro, q.rc, q.rs, sf, true, rfl, rfl, rfl, rfl, hide ⟨.inr ((unhide HNW).tail.mono (by have := (unhide HH).2.2.2.1; omega) (by have := (unhide HH).2.2.2.1; omega) (fun _ t => t)), (unhide HQ).rows, (unhide HRN).2⟩⟩
                    · have HRW := hide ((unhide HV).rewriteFull q.ro q.rc q.rs (unhide HQ).rows (by omega))
                      clear hfit HV d0
                      go_wp2_with fail
                      refine (unhide HRW).mono ?_
                      rintro e v2 ⟨rfl, HV2⟩
                      clear HRW d3
                      have HNU := hide (number_err v2 (unhide HF _ (unhide HV2).fr) 91)
                      go_wp2_with fail
                      refine (unhide HNU).mono ?_
                      rintro e nw ⟨rfl, hnf⟩
                      have HNW := hide ((unhide HV2).keep hnf)
                      clear hnf HNU HV2
                      go_wp2
                      go_meet
                      case rel => exact ⟨bo, bc, la, no, nc, nx, sf, false, rfl, rfl, rfl, rfl, hide ⟨.inl ⟨rfl, (unhide HNW).tail.mono (by omega) (by omega) (by omega)⟩, (unhide HRN).1, (unhide HRN).2⟩⟩
                  · clear d0
                    go_wp2
                    go_meet
                    case rel => exact ⟨bo, bc, la, no, nc, nx, sf, false, rfl, rfl, rfl, rfl, hide ⟨.inl ⟨rfl, (unhide HV).tail.mono (by omega) (by omega) (by omega)⟩, (unhide HRN).1, (unhide HRN).2⟩⟩
            case rest =>
              obtain ⟨ao2, cap2, la2, no2, nc2, nx2, sf2, an2, rfl, rfl, rfl, rfl, HC⟩ := hcut
              go_wp2
              exact ⟨⟨i + 1, ao2, cap2, la2, no2, nc2, nx2, sf2, an2, by omega, by omega, rfl, rfl, rfl, rfl, by go_num, HC⟩, by simp [intOf]; omega⟩
          · have HDN := hide hDd.down
            clear hDd HR
            go_wp2_with fail
            refine (unhide HDN).mono ?_
            rintro e u ⟨rfl, rfl⟩
            clear HDN
            go_wp2
            go_meet
            case rel => exact ⟨bo, bc, la, no, nc, nx, sf, an, rfl, rfl, rfl, rfl, HEX⟩
        · have hI2 : ¬ ((i : Int) < 40) := by omega
          clear HR
          go_wp2
          go_meet
          case rel => exact ⟨bo, bc, la, no, nc, nx, sf, an, rfl, rfl, rfl, rfl, HEX⟩
      · have hI1 : ¬ ((i : Int) < (ps.length : Int)) := by omega
        clear HR
        go_wp2
        go_meet
        case rel => exact ⟨bo, bc, la, no, nc, nx, sf, an, rfl, rfl, rfl, rfl, HEX⟩
  case rest =>
    obtain ⟨bo, bc, la, no, nc, nx, sf, an, rfl, rfl, rfl, rfl, HC⟩ := hcut
    obtain ⟨⟨dn, hBQ⟩, hnx, hla⟩ := unhide HC
    have HB := hide hBQ
    have HN := hide (And.intro hnx hla)
    have hlaI : (la.length : Int) ≤ 1000 := by omega
    have hnxI : (nx.length : Int) ≤ 140737488355328 := by have := hnx.small; omega
    clear HC hBQ hnx hla HD5
    have x2 : wc.cell? ⟨w.heap.size, 2, none⟩ = some (.slice f1.ko f1.ks.length f1.kc) := ((unhide HB).box (List.mem_singleton.2 rfl)).cell 2
    have HCR := hide ((unhide HB).loss (by omega) f1.ko f1.kc f1.ks (unhide HH).2.2.2.2.2.1.keep)
    go_wp2_with fail
    refine (unhide HCR).mono ?_
    rintro e w6 ⟨rfl, HZ⟩
    clear HCR HB x2
    have HF : Hid (∀ x, Fr (fun _ => False) w x → ErrT x) := hide (fun x hx => (hx.cell (a := ⟨0, 0, none⟩) (World.block_lt_of_cell? _ _ (unhide HH).2.2.2.2.1) (fun t => t)).trans (unhide HH).2.2.2.2.1)
    go_upto_block 3 with (fail)
    go_cut [24, 25, 26, 27] from 131 to 185 (fun _ _ _ _ wd => Hid (BZ w wd hp b (4 + k) 200000 2000 bo bc la true (OKf sf la an nx) [(w.heap.size, #[.int .i64 f1.acts, .bool f1.done, .slice f1.ko f1.ks.length f1.kc], 59)]))
    case first =>
      go_wp2
      go_loopw [24] (fun iv wr => ∃ i : Nat, i ≤ fs.length ∧ i ≤ 6 ∧ iv = .int .i64 (i : Nat) ∧ Hid (BZ w wr hp b (4 + k) (130000 + 3000 * i) (1000 + 20 * i) bo bc la true (OKf sf la an nx) [(w.heap.size, #[.int .i64 f1.acts, .bool f1.done, .slice f1.ko f1.ks.length f1.kc], 59)])) (fun iv _ => 6 - (intOf iv).toNat)
      case atStart => exact ⟨0, Nat.zero_le _, Nat.zero_le _, rfl, HZ⟩
      case round =>
        obtain ⟨i, hi, hi6, rfl, HR⟩ := hrel
        clear HZ
        by_cases hl1 : i < fs.length
        · have hI1 : (i : Int) < (fs.length : Int) := by omega
          by_cases hl2 : i < 6
          · have hI2 : (i : Int) < 6 := by omega
            obtain ⟨pb, po, hpa, hpc⟩ := (unhide HH).2.2.2.2.2.2.1.cells (by omega)
            subst hpa
            obtain ⟨f, hf⟩ : ∃ f, f = fs[i] := ⟨_, rfl⟩
            have HQ : Hid (f.ok w) := by rw [hf]; exact hide ((unhide HH).2.2.2.2.2.2.1.ok i hl1)
            have HCL : Hid (∀ x, Fr (fun _ => False) w x → x.cell? ⟨pb, po + i * 3, none⟩ = some (.int .i64 f.acts) ∧ x.cell? ⟨pb, po + i * 3 + 1, none⟩ = some (.bool f.done) ∧ x.cell? ⟨pb, po + i * 3 + 2, none⟩ = some (.slice f.ko f.ks.length f.kc)) := by
              refine hide (fun x hx => ?_)
              have h0 : w.cell? ⟨pb, po + i * 3, none⟩ = some (.int .i64 f.acts) := by have h := hpc i hl1 0 (by omega); rw [← hf] at h; exact h
              have h1 : w.cell? ⟨pb, po + i * 3 + 1, none⟩ = some (.bool f.done) := by have h := hpc i hl1 1 (by omega); rw [← hf] at h; exact h
              have h2 : w.cell? ⟨pb, po + i * 3 + 2, none⟩ = some (.slice f.ko f.ks.length f.kc) := by have h := hpc i hl1 2 (by omega); rw [← hf] at h; exact h
              have hlt := World.block_lt_of_cell? _ _ h0
              exact ⟨(hx.cell (a := ⟨pb, po + i * 3, none⟩) hlt (fun t => t)).trans h0, (hx.cell (a := ⟨pb, po + i * 3 + 1, none⟩) hlt (fun t => t)).trans h1, (hx.cell (a := ⟨pb, po + i * 3 + 2, none⟩) hlt (fun t => t)).trans h2⟩
            clear hf hpc
            have HAR := hide (((unhide HR).keep ((Fr.refl _ _).drew)).arm f.acts (by have := (unhide HQ).acts; omega) f.done)
            have HFR := hide (unhide HR).fr
            clear HR
            go_upto_region 37 with (fail)
            go_region_held3 (fun w' => w'.cell? ⟨pb, po + i * 3, none⟩ = some (.int .i64 f.acts) ∧ w'.cell? ⟨pb, po + i * 3 + 1, none⟩ = some (.bool f.done)) (first | exact ⟨(unhide HCL _ ((unhide HFR).trans ((Fr.refl _ _).drew) (fun _ _ t => t))).1, (unhide HCL _ ((unhide HFR).trans ((Fr.refl _ _).drew) (fun _ _ t => t))).2.1⟩ | exact ⟨(unhide HCL _ (unhide HZ1).fr).1, (unhide HCL _ (unhide HZ1).fr).2.1⟩) (first | (go_at_call 29; refine (unhide HAR).mono ?_; rintro e u1 ⟨rfl, HZ1⟩))
            clear HAR HFR
            have HDK := hide (unhide HZ1).disk
            go_wp2_with fail
            refine (unhide HDK).mono ?_
            rintro e u2 ⟨q2, rfl, HZ2⟩
            clear HDK HZ1
            have HOP := hide ((unhide HZ2).open (by omega) (by have := (unhide HH).2.2.1; omega) (by have := (unhide HH).2.2.2.1; omega) (by omega))
            go_wp2_with fail
            refine (unhide HOP).mono ?_
            rintro e u3 (⟨hjk, rfl, HZ3⟩ | ⟨lg3, ro3, rc3, l3, rfl, HZ3⟩)
            · clear HOP HZ2 hjk
              have HNU := hide (number_err u3 (unhide HF _ (unhide HZ3).fr) 5)
              go_wp2_with fail
              refine (unhide HNU).mono ?_
              rintro e nw ⟨rfl, hnf⟩
              have HNW := hide ((unhide HZ3).keep hnf)
              clear hnf HNU HZ3
              have y2 := (unhide HCL _ (unhide HNW).fr).2.2
              have HCR := hide ((unhide HNW).loss (by have := (unhide HH).2.2.2.1; omega) f.ko f.kc f.ks (unhide HQ).keep)
              go_wp2_with fail
              refine (unhide HCR).mono ?_
              rintro e u4 ⟨rfl, HZ4⟩
              clear HCR HNW y2
              go_wp2
              exact ⟨⟨i + 1, by omega, by omega, by go_num, hide ((unhide HZ4).mono (by have := (unhide HH).2.2.2.1; omega) (by have := (unhide HH).2.2.2.1; omega))⟩, by simp [intOf]; omega⟩
            · clear HOP HZ2
              have HNW := hide (unhide HZ3).2.2.1
              have hl3 : (l3.length : Int) ≤ 140737488355328 := by have := (unhide HZ3).2.1; omega
              clear HZ3
              have y2 := (unhide HCL _ (unhide HNW).fr).2.2
              have HCR := hide ((unhide HNW).loss (by have := (unhide HH).2.2.2.1; omega) f.ko f.kc f.ks (unhide HQ).keep)
              go_wp2_with fail
              refine (unhide HCR).mono ?_
              rintro e u4 ⟨rfl, HZ4⟩
              clear HCR HNW y2
              go_wp2
              exact ⟨⟨i + 1, by omega, by omega, by go_num, hide ((unhide HZ4).mono (by have := (unhide HH).2.2.2.1; omega) (by have := (unhide HH).2.2.2.1; omega))⟩, by simp [intOf]; omega⟩
          · have hI2 : ¬ ((i : Int) < 6) := by omega
            go_wp2
            go_meet
            case rel => exact hide ((unhide HR).mono (by omega) (by omega))
        · have hI1 : ¬ ((i : Int) < (fs.length : Int)) := by omega
          go_wp2
          go_meet
          case rel => exact hide ((unhide HR).mono (by omega) (by omega))
    case rest =>
      have HDK := hide (unhide hcut).disk
      go_wp2_with fail
      refine (unhide HDK).mono ?_
      rintro e u1 ⟨q2, rfl, HZ2⟩
      clear HDK hcut HZ
      have HOP := hide ((unhide HZ2).open (by omega) (by have := (unhide HH).2.2.1; omega) (by have := (unhide HH).2.2.2.1; omega) (by omega))
      go_wp2_with fail
      refine (unhide HOP).mono ?_
      rintro e u2 (⟨hjk, rfl, HZ3⟩ | ⟨lg3, ro3, rc3, l3, rfl, HZ3⟩)
      · cases hjk
      · clear HOP HZ2
        have hl3 : (l3.length : Int) ≤ 140737488355328 := by have := (unhide HZ3).2.1; omega
        have HNX : Hid (RecsP (fun _ => True) u2 no nc nx) := hide ((unhide HN).1.frame (unhide HZ3).2.2.1.fr (fun _ _ t => t))
        have HAL : Hid (RecsP (fun _ => True) u2 bo bc la) := hide ((unhide HZ3).2.2.2.2 (by have := (unhide HN).2; omega))
        have hcut2 : (l3.length : Int) ≤ (la.length : Int) → ∀ w', (Instr.slice 22 (.slice bo la.length bc) none (some (.int .i64 (l3.length : Int))) none).run Tryz.prog w' = .ok (.slice bo l3.length bc) w' := fun h w' => cutRows bo la.length bc l3.length (by have := (unhide HZ3).2.2.1.cap; omega) w'
        have HSS : Hid (∀ x, Fr (fun _ => False) u2 x → l3 = la.take l3.length → Calls Tryz.prog 27 #[.slice ro3 l3.length rc3, .slice bo l3.length bc] x fun e w' => e = .returned (.bool true) ∧ Hid (Fr (fun _ => False) x w')) := by
          refine hide (fun x hx he => ?_)
          have ht : (la.take l3.length).length = l3.length := congrArg List.length he.symm
          have h := same_any x ro3 bo rc3 bc l3 (la.take l3.length) ((unhide HZ3).2.2.2.1.frame hx (fun _ _ t => t)) (((unhide HAL).take l3.length).frame hx (fun _ _ t => t))
          rw [ht, sameF, decide_eq_true he] at h
          exact h.mono (fun e w' k => ⟨k.1, hide k.2⟩)
        have HFE := hide (unhide HZ3).2.2.1.fr
        cases an with
        | false =>
          have hr := (unhide HZ3).1.resolve_left (fun h => by cases h.1)
          have hge : (sf : Int) ≤ (l3.length : Int) := by have := hr.1; omega
          have hle : (l3.length : Int) ≤ (la.length : Int) := by have := hr.2.1; omega
          have hct := hcut2 hle
          have HS2 := hide (unhide HSS u2 (Fr.refl _ _) hr.2.2)
          clear hr hcut2 HZ3
          go_wp2_with fail
          refine (unhide HS2).mono ?_
          rintro e u3 ⟨rfl, hF3⟩
          clear HS2
          go_wp2
          go_ret
          exact ⟨rfl, (unhide HFE).trans (unhide hF3) (fun _ _ t => t)⟩
        | true =>
          have HS1 : Hid (Calls Tryz.prog 27 #[.slice ro3 l3.length rc3, .slice no nx.length nc] u2 fun e w' => e = .returned (.bool (sameF l3 nx)) ∧ Hid (Fr (fun _ => False) u2 w')) := hide ((same_any u2 ro3 no rc3 nc l3 nx (unhide HZ3).2.2.2.1 (unhide HNX)).mono (fun e w' k => ⟨k.1, hide k.2⟩))
          by_cases hs : l3 = nx
          · rw [sameF, decide_eq_true hs] at HS1
            clear hs hcut2 HZ3
            go_wp2_with fail
            refine (unhide HS1).mono ?_
            rintro e u3 ⟨rfl, hF3⟩
            clear HS1
            go_wp2
            go_ret
            exact ⟨rfl, (unhide HFE).trans (unhide hF3) (fun _ _ t => t)⟩
          · rw [sameF, decide_eq_false hs] at HS1
            have hr := (unhide HZ3).1.resolve_left (fun h => hs h.2)
            have hge : (sf : Int) ≤ (l3.length : Int) := by have := hr.1; omega
            have hle : (l3.length : Int) ≤ (la.length : Int) := by have := hr.2.1; omega
            have hct := hcut2 hle
            have HRR := hide hr.2.2
            clear hs hr hcut2 HZ3
            go_wp2_with fail
            refine (unhide HS1).mono ?_
            rintro e u3 ⟨rfl, hF3⟩
            clear HS1
            have HS2 := hide (unhide HSS u3 (unhide hF3) (unhide HRR))
            go_wp2_with fail
            refine (unhide HS2).mono ?_
            rintro e u4 ⟨rfl, hF4⟩
            clear HS2
            go_wp2
            go_ret
            exact ⟨rfl, ((unhide HFE).trans (unhide hF3) (fun _ _ t => t)).trans (unhide hF4) (fun _ _ t => t)⟩

end Go.Proofs.YtdbmmbnbgndllaaGreatDoor

