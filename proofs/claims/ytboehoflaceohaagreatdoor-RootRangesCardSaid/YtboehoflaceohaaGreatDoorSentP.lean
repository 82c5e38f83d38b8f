/- Sentinel errors in a list of laid variables: each variable holds a pointer of its own. No program is imported. -/
import Derived.Test.YtboehoflaceohaaGreatDoorKit
import Derived.LaidLaws
import Derived.Stop.LaidErr
namespace Go.Proofs.YtboehoflaceohaaGreatDoor
open Go.RowKit
/-- how a sentinel error reads -/
def errD (text : List UInt8) : DataW Unit := .iface "*errors.errorString" (.ptr (.agg [.lit (.string text)]))
theorem sents {P : Program} {W : World} {ti tp te ts : TypeId} {ms : Array (String × TypeId)} {f : Field}
    (hi : P.underlying ti = some (.interface ms)) (hrow : ∀ u, P.typeName? 3 u = some "*errors.errorString" → u = tp)
    (hp : P.underlying tp = some (.pointer te)) (he : P.underlying te = some (.struct #[f])) (hft : f.type = ts) (hfo : f.offset = 0) (hs : P.underlying ts = some .string) (hc : P.cellsOf te = 1) (hcs : P.cellsOf ts = 1)
    (rest : List (String × DataW Unit)) : ∀ (l : List (String × List UInt8)) (ps : List MemPlace), DataW.LaidVars P W (l.map (fun x => (x.1, errD x.2)) ++ rest) ps → ps.Nodup →
      (∀ b off, MemPlace.cell b off ∈ ps → (∃ c t, W.heap[b]? = some (.cells c t (0, 0))) ∧ ∀ u v, W.cell? ⟨b, off, none⟩ = some (.iface u v) → Value.okWide P W .any 0 u v) →
      (∀ x ∈ l, ∃ g, P.globalNamed x.1 = some g ∧ (P.globals[g]?).map (·.type) = some ti) →
      ∃ ads : List Addr, ads.length = l.length ∧ ads.Nodup ∧ (∀ a ∈ ads, MemPlace.cell a.block a.off ∈ ps ∧ ∃ c t, W.heap[a.block]? = some (.cells c t (0, 0))) ∧
        ∀ (i : Nat) (n : String), (l.map (·.1))[i]? = some n → ∃ a, ads[i]? = some a ∧ W.var? P n = some #[.iface tp (.pointer (some a))]
  | [], ps, _, _, _, _ => ⟨[], rfl, List.nodup_nil, fun a h => absurd h (by simp), fun i n h => by simp at h⟩
  | (n0, t0) :: l, ps, h, hnd, hrows, hg => by
    obtain ⟨g, t, cs, fuel, p, q, hg', ht', hvar, hd, hq, e⟩ := h
    obtain ⟨g0, hg0, hty⟩ := hg (n0, t0) (by simp)
    obtain rfl := Option.some.inj (hg0.symm.trans hg')
    obtain rfl := Option.some.inj (hty.symm.trans ht')
    subst e
    obtain ⟨cl⟩ := cs
    have ok0 : ∀ u v, cl = [.iface u v] → Value.okWide P W .any 0 u v := fun u v e => by
      subst e
      exact (hrows g0 0 (by simp [MemPlace.row])).2 u v (by simpa using World.var?_cell hg0 hvar 0)
    obtain ⟨a, s, e1, hca, _, _, e2⟩ := errorString_of_trod hi hrow hp he hft hfo hs hc hcs hd ok0
    have e1' : cl = [.iface tp (.pointer (some a))] := e1
    subst e1' e2
    have hnd2 : q.Nodup := (List.nodup_append.1 hnd).2.1
    obtain ⟨ads, hlen, hno, hall, hat⟩ := sents hi hrow hp he hft hfo hs hc hcs rest l q hq hnd2 (fun b off hm => hrows b off (by simp [hm])) (fun x hx => hg x (by simp [hx]))
    have hain : MemPlace.cell a.block a.off ∈ MemPlace.row a 1 := by simp [MemPlace.row]
    refine ⟨a :: ads, by simp [hlen], ?_, ?_, ?_⟩
    · refine List.nodup_cons.2 ⟨fun hin => ?_, hno⟩
      have h1 := (hall a hin).1
      have h2 := (List.nodup_append.1 hnd).2.2 (MemPlace.cell a.block a.off) (by simp [hain]) (MemPlace.cell a.block a.off) h1
      exact h2 rfl
    · intro b hb
      rcases List.mem_cons.1 hb with rfl | hb
      · exact ⟨by simp [hain], (hrows b.block b.off (by simp [hain])).1⟩
      · exact ⟨by simp [(hall b hb).1], (hall b hb).2⟩
    · intro i n hn
      cases i with
      | zero =>
        simp at hn
        subst hn
        exact ⟨a, rfl, hvar⟩
      | succ i =>
        simp at hn
        obtain ⟨b, hb, hv⟩ := hat i n (by simpa using hn)
        exact ⟨b, by simpa using hb, hv⟩
/-- an error of the project's at an address -/
def ev (a : Addr) : Value := .iface 187 (.pointer (some a))
end Go.Proofs.YtboehoflaceohaaGreatDoor

