/- Contracts. -/
import Init
namespace Go.Proofs.YtgiicohbigiapaaGreat
abbrev ae:=List Nat
theorem aT{p:Prop}[Decidable p](h:¬p:=by omega):decide p=false:=decide_eq_false h
theorem cl{p:Prop}[Decidable p](h:p:=by omega):decide p=true:=decide_eq_true h
theorem cz{a b:Int}(h:¬a=b:=by omega):(a == b)=false:=beq_eq_false_iff_ne.2 h
theorem bh{n:Nat}:n<=n:=Nat.le_refl n
theorem aY{α:Type _}{a b:List α}:(a++b).length=a.length+b.length:=List.length_append
theorem bH{α:Type _}{l:List α}{i:Nat}(h:i<l.length):l[i]?=some (l[i]'h):=List.getElem?_eq_getElem h
theorem aA{c:Prop}{h:Decidable c}(hc:c){α:Sort _}{t e:α}:ite c t e=t:=if_pos hc
theorem ay{c:Prop}{h:Decidable c}(hc:¬c){α:Sort _}{t e:α}:ite c t e=e:=if_neg hc
theorem bF{p:Prop}[i:Decidable p](h:¬p):decide p=false:=decide_eq_false h
theorem bG{p:Prop}[i:Decidable p](h:p):decide p=true:=decide_eq_true h
theorem b1{α:Type _}{a:α}{l:List α}:(a::l).length=l.length+1:=List.length_cons
theorem cq{α:Type _}{i:Nat}{l:List α}:(l.take i).length=min i l.length:=List.length_take
theorem cC{α:Type _}{i:Nat}{l:List α}:(l.drop i).length=l.length-i:=List.length_drop
theorem dR{α:Type _}{a:α}{l:List α}:(a::l)[0]?=some a:=List.getElem?_cons_zero
theorem dU{α:Type _}{a:α}{l:List α}{i:Nat}:(a::l)[i+1]?=l[i]?:=List.getElem?_cons_succ
theorem du{n m k:Nat}:n<=m->m<=k->n<=k:=Nat.le_trans
theorem eW(w:Nat):0<2^w:=Nat.two_pow_pos w
theorem dD{n:Nat}(h:n>0){i j:Nat}:i<=j->n^i<=n^j:=Nat.pow_le_pow_right h
theorem gV{n m k:Nat}:n<m->m<=k->n<k:=Nat.lt_of_lt_of_le
theorem ej(n m:Nat):n^m.succ=n^m*n:=Nat.pow_succ n m
theorem dM(a m n:Nat):a^(m+n)=a^m*a^n:=Nat.pow_add a m n
theorem eH(n:Nat):0+n=n:=Nat.zero_add n
theorem ga(n:Nat):n+0=n:=Nat.add_zero n
theorem eQ(n m:Nat):n*m=m*n:=Nat.mul_comm n m
theorem km(m n k:Nat):m/n/k=m/(n*k):=Nat.div_div_eq_div_mul m n k
theorem eP(n m:Nat):n<m\/n≥m:=Nat.lt_or_ge n m
theorem jb(n m k:Nat):n+m+k=n+(m+k):=Nat.add_assoc n m k
theorem b7{α:Type _}{l:List α}{n:Nat}(h:n<l.length):l[n]∈l:=List.getElem_mem h
theorem aw0{α:Type _}{a:α}{s t:List α}:a∈s++t↔a∈s\/a∈t:=List.mem_append
theorem cY(n:Nat):(n:Int).toNat=n:=Int.toNat_natCast n
theorem b6{α:Type _}{a b:α}:(some a).getD b=a:=Option.getD_some
theorem ew{α:Type _}(y:α){a:α}{l:List α}:a∈l->a∈y::l:=List.mem_cons_of_mem y
theorem dj{α:Type _}(a b c:List α):a++b++c=a++(b++c):=List.append_assoc a b c
theorem ea{α:Type _}{a:α}{l:List α}:a∈a::l:=List.mem_cons_self
theorem cQ{α:Type _}{β:Type _}{as:List α}(f:α->β):(as.map f).length=as.length:=List.length_map f
theorem gA{α:Type _}(i:Nat)(l:List α):l.take i++l.drop i=l:=List.take_append_drop i l
theorem hZ{α:Type _}{ca cT:List α}{i:Nat}:i<ca.length->(ca++cT)[i]?=ca[i]?:=List.getElem?_append_left
theorem jk{α:Type _}{ca cT:List α}{i:Nat}:ca.length<=i->(ca++cT)[i]?=cT[i-ca.length]?:=List.getElem?_append_right
theorem lq{α:Type _}{l:List α}:l.length=0->l=[]:=List.eq_nil_of_length_eq_zero
theorem jl{α:Type _}{n:Nat}{a:α}:(List.replicate n a).length=n:=List.length_replicate
theorem gb{α:Type _}{l:List α}{i:Nat}(h:i<l.length):l.take (i+1)=l.take i++[l[i]]:=List.take_succ_eq_append_getElem h
end Go.Proofs.YtgiicohbigiapaaGreat
