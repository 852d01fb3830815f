/- Contracts. -/
import Init
namespace Go.Proofs.YtgiicohbigiapaaGreat
abbrev ae:=List Nat
abbrev aW(l:List Nat):Prop:=∀x∈l,x<256
theorem aU{p:Prop}[Decidable p](h:¬p:=by omega):decide p=false:=decide_eq_false h
theorem cf{p:Prop}[Decidable p](h:p:=by omega):decide p=true:=decide_eq_true h
theorem cz{a b:Int}(h:¬a=b:=by omega):(a == b)=false:=beq_eq_false_iff_ne.2 h
theorem bl{n:Nat}:n<=n:=Nat.le_refl n
theorem aY{α:Type _}{a b:List α}:(a++b).length=a.length+b.length:=List.length_append
theorem bI{α:Type _}{l:List α}{i:Nat}(h:i<l.length):l[i]?=some (l[i]'h):=List.getElem?_eq_getElem h
theorem aB{c:Prop}{h:Decidable c}(hc:c){α:Sort _}{t e:α}:ite c t e=t:=if_pos hc
theorem az{c:Prop}{h:Decidable c}(hc:¬c){α:Sort _}{t e:α}:ite c t e=e:=if_neg hc
theorem bG{p:Prop}[i:Decidable p](h:¬p):decide p=false:=decide_eq_false h
theorem bE{p:Prop}[i:Decidable p](h:p):decide p=true:=decide_eq_true h
theorem bY{α:Type _}{a:α}{l:List α}:(a::l).length=l.length+1:=List.length_cons
theorem cr{α:Type _}{i:Nat}{l:List α}:(l.take i).length=min i l.length:=List.length_take
theorem cB{α:Type _}{i:Nat}{l:List α}:(l.drop i).length=l.length-i:=List.length_drop
theorem dH{α:Type _}{a:α}{l:List α}:(a::l)[0]?=some a:=List.getElem?_cons_zero
theorem dJ{α:Type _}{a:α}{l:List α}{i:Nat}:(a::l)[i+1]?=l[i]?:=List.getElem?_cons_succ
theorem dl{n m k:Nat}:n<=m->m<=k->n<=k:=Nat.le_trans
theorem eK(w:Nat):0<2^w:=Nat.two_pow_pos w
theorem dy{n:Nat}(h:n>0){i j:Nat}:i<=j->n^i<=n^j:=Nat.pow_le_pow_right h
theorem gJ{n m k:Nat}:n<m->m<=k->n<k:=Nat.lt_of_lt_of_le
theorem ea(n m:Nat):n^m.succ=n^m*n:=Nat.pow_succ n m
theorem dI(a m n:Nat):a^(m+n)=a^m*a^n:=Nat.pow_add a m n
theorem ez(n:Nat):0+n=n:=Nat.zero_add n
theorem fX(n:Nat):n+0=n:=Nat.add_zero n
theorem eG(n m:Nat):n*m=m*n:=Nat.mul_comm n m
theorem jX(m n k:Nat):m/n/k=m/(n*k):=Nat.div_div_eq_div_mul m n k
theorem eF(n m:Nat):n<m\/n≥m:=Nat.lt_or_ge n m
theorem iO(n m k:Nat):n+m+k=n+(m+k):=Nat.add_assoc n m k
theorem b8{α:Type _}{l:List α}{n:Nat}(h:n<l.length):l[n]∈l:=List.getElem_mem h
theorem axo{α:Type _}{a:α}{s t:List α}:a∈s++t↔a∈s\/a∈t:=List.mem_append
theorem cX(n:Nat):(n:Int).toNat=n:=Int.toNat_natCast n
theorem b7{α:Type _}{a b:α}:(some a).getD b=a:=Option.getD_some
theorem eo{α:Type _}(y:α){a:α}{l:List α}:a∈l->a∈y::l:=List.mem_cons_of_mem y
theorem df{α:Type _}(a b c:List α):a++b++c=a++(b++c):=List.append_assoc a b c
theorem dU{α:Type _}{a:α}{l:List α}:a∈a::l:=List.mem_cons_self
theorem cQ{α:Type _}{β:Type _}{as:List α}(f:α->β):(as.map f).length=as.length:=List.length_map f
theorem gq{α:Type _}(i:Nat)(l:List α):l.take i++l.drop i=l:=List.take_append_drop i l
theorem hO{α:Type _}{cb cR:List α}{i:Nat}:i<cb.length->(cb++cR)[i]?=cb[i]?:=List.getElem?_append_left
theorem iY{α:Type _}{cb cR:List α}{i:Nat}:cb.length<=i->(cb++cR)[i]?=cR[i-cb.length]?:=List.getElem?_append_right
theorem lf{α:Type _}{l:List α}:l.length=0->l=[]:=List.eq_nil_of_length_eq_zero
theorem iZ{α:Type _}{n:Nat}{a:α}:(List.replicate n a).length=n:=List.length_replicate
theorem fY{α:Type _}{l:List α}{i:Nat}(h:i<l.length):l.take (i+1)=l.take i++[l[i]]:=List.take_succ_eq_append_getElem h
end Go.Proofs.YtgiicohbigiapaaGreat
